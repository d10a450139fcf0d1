/- Package codec: Get. -/
import Derived.Test.YtinefkljjnepjabGreatWPRd
import Derived.Test.YtinefkljjnepjabGreatWPXR
import Derived.Test.YtinefkljjnepjabGreatWJP
import Derived.Test.YtinefkljjnepjabGreatWJR3
import Derived.Test.YtinefkljjnepjabGreatWJGood
namespace Go.Proofs.YtinefkljjnepjabGreat
open Go.RowKit
set_option linter.unusedVariables false
set_option linter.unusedSimpArgs false
def Fit (f:Nat→Int) (m:Nat):Prop:=FitB f m∧OfE (numR f 4 8) (kF f) (vF f) (gF f) (nF f) (LF f) 0
def GetOut (HR:World→Nat→(Nat→Prop)→Int→(Nat→Int)→(Nat→Int)→(Nat→Bool)→Nat→List (List Sg)→Prop) (w w':World) (e:Ending) (f:Nat→Int) (m:Nat):Prop :=
 (Fit f m∧∃ p S,e=.returned (.tuple #[.pointer (some ⟨p,0,none⟩), .int .i64 0])∧(∀ q,S q→w.heap.size≤q)∧HR w' p S (numR f 4 8) (kF f) (vF f) (gF f) (nF f) (LF f)∧RunG (numR f 4 8) (kF f) (vF f) (gF f) (nF f) (LF f))∨(¬ Fit f m∧e=.returned (.tuple #[.pointer none, .int .i64 120]))
set_option maxRecDepth 10000 in
theorem told12_any (err:Int) (w:World):Calls Tryz.prog 32 #[.iface 33 (.int .i64 err)] w fun e w'=>e=.returned (.int .i64 err)∧w'=w:=by
 have ha:=assert_errno err
 go_enter Tryz.func32,Tryz.ntmps32
 go_wp2_with fail
 go_ret
 exact ⟨rfl,rfl⟩
set_option maxRecDepth 10000 in
theorem caught12 (bl be:Nat) (v0 v1:Value) (E:Int) (ne:¬ bl=be) (w:World) (h0:w.cell? ⟨bl,0,none⟩=some v0) (f0:w.frozen? ⟨bl,0,none⟩=false) (h1:w.cell? ⟨be,0,none⟩=some v1) (f1:w.frozen? ⟨be,0,none⟩=false) :
  CallsD Tryz.prog 31 #[.pointer (some ⟨bl,0,none⟩), .pointer (some ⟨be,0,none⟩)] (.panicking (thrown E)) w fun e u' w' =>
   e=.returned (.tuple #[])∧u'=.panicking [{ v:=.iface 33 (.int .i64 E),recovered:=true }]∧w'=(w.setCell ⟨bl,0,none⟩ (.pointer none)).setCell ⟨be,0,none⟩ (.int .i64 E):=by
 refine callsD_of_wpS Tryz.func31 rfl fun c₀ cs hu=>?_
 apply wpS_seq
 apply wpS_region
 simp [wpOpsS,go_sem,recoverD,hu,Tryz.ntmps31,Exit.thenS]
 apply wpS_seq
 apply wpS_region
 simp [wpOpsS,go_sem,recoverD,Exit.thenS]
 refine wpS_cond (t:=true) (by simp [Act.eval,Array.replicate]) ?_
 simp only [if_true]
 refine wpS_of_wp ?_
 change Code.wp _ _ _ ⟨#[.pointer (some ⟨bl,0,none⟩), .pointer (some ⟨be,0,none⟩), .iface 33 (.int .i64 E), .iface 33 (.int .i64 E), .iface 33 (.int .i64 E), .bool true,undef,undef],[]⟩ w
 go_wp2_with fail
 refine (told12_any E _).mono ?_
 rintro e w1 ⟨rfl,rfl⟩
 go_wp2_with fail
 simp [bodyPostS,results,Tryz.results31,go_sem]
theorem idle12 (bl be:Nat) (w:World) :
  CallsD Tryz.prog 31 #[.pointer (some ⟨bl,0,none⟩), .pointer (some ⟨be,0,none⟩)] .returning w fun e u' w'=>e=.returned (.tuple #[])∧u'=.returning∧w'=w:=by
 refine callsD_of_wpS Tryz.func31 rfl fun c₀ cs hu=>?_
 apply wpS_seq
 apply wpS_region
 simp [wpOpsS,go_sem,recoverD,hu,Tryz.ntmps31,Exit.thenS]
 apply wpS_seq
 apply wpS_region
 simp [wpOpsS,go_sem,recoverD,Exit.thenS]
 refine wpS_cond (t:=false) (by simp [Act.eval,Array.replicate]) ?_
 simp only [Bool.false_eq_true,if_false]
 refine wpS_of_wp (wp_skip ?_)
 cases c₀
 simp_all [bodyPostS,results,Tryz.results31]
structure GB (w:World) (br be:Nat) (v:Value) (W:World):Prop where
 gw:Gw w W
 rx:Box W br v 27
 ex:Box W be (.int .i64 0) 33
theorem GB.upd {w:World} {br be p:Nat} {v:Value} {W W':World} (h:GB w br be v W) (u:Upd p W W') (hp:w.heap.size≤p) (n1:br≠p) (n2:be≠p):GB w br be v W':=⟨u.gw w hp h.gw,(u.blk _ n1 h.rx.lt).trans h.rx,(u.blk _ n2 h.ex.lt).trans h.ex⟩
theorem GB.mono {w:World} {br be:Nat} {v:Value} {W W':World} (h:GB w br be v W) (g:Gw W W'):GB w br be v W':=⟨h.gw.trans g,h.rx.gw g,h.ex.gw g⟩
theorem ES.upd {w w':World} {eo:Option Addr} {n p:Nat} {k v:Nat→Int} {g:Nat→Bool} (h:ES w eo n k v g) (u:Upd p w w') (hb:∀ a,eo=some a→a.block≠p):ES w' eo n k v g :=
 ⟨fun h0=>by
  obtain ⟨b,off,e,hl,hc⟩:=h.cells h0
  have eq:∀ o,w'.cell? ⟨b,o,none⟩=w.cell? ⟨b,o,none⟩:=fun o=>u.cell (hb _ e) hl o
  exact ⟨b,off,e,Nat.lt_of_lt_of_le hl u.size,fun i hi=>⟨(eq _).trans (hc i hi).1,(eq _).trans (hc i hi).2.1,(eq _).trans (hc i hi).2.2⟩⟩,h.bd⟩
theorem head_lies {f:Nat→Int}:(∀ i,i<(⟨#[73,78,67,49]⟩:ByteArray).size→f i=strB ⟨#[73,78,67,49]⟩ i)↔Lies f 0 headB:=by
 have e0:strB ⟨#[73,78,67,49]⟩ 0=73:=rfl
 have e1:strB ⟨#[73,78,67,49]⟩ 1=78:=rfl
 have e2:strB ⟨#[73,78,67,49]⟩ 2=67:=rfl
 have e3:strB ⟨#[73,78,67,49]⟩ 3=49:=rfl
 constructor
 ·intro h i hi
  have hi4:i<4:=hi
  have:=h i hi
  rw [Nat.zero_add,this]
  match i,hi4 with
  | 0,_=>rw [e0];rfl
  | 1,_=>rw [e1];rfl
  | 2,_=>rw [e2];rfl
  | 3,_=>rw [e3];rfl
 ·intro h i hi
  have hi4:i<4:=hi
  have:=h i hi
  rw [Nat.zero_add] at this
  match i,hi4 with
  | 0,_=>rw [e0];exact (Option.some.inj this).symm
  | 1,_=>rw [e1];exact (Option.some.inj this).symm
  | 2,_=>rw [e2];exact (Option.some.inj this).symm
  | 3,_=>rw [e3];exact (Option.some.inj this).symm
set_option maxRecDepth 10000 in
set_option maxHeartbeats 8000000 in
theorem jget {HR:World→Nat→(Nat→Prop)→Int→(Nat→Int)→(Nat→Int)→(Nat→Bool)→Nat→List (List Sg)→Prop} (H:RunC HR) (ao:Option Addr) (m cp:Nat) (f:Nat→Int) (hm:m≤140737488355000) (md:Mod f m) (w:World) (h:BS w ao m f) :
  Calls Tryz.prog 9 #[.slice ao m cp] w fun e w'=>GetOut HR w w' e f m∧Gw w w':=by
 have hmf:∀ (fn:Fn) (first cap:Array Value) (w:World),(Instr.makeFunc fn first cap).run Tryz.prog w=.ok (.func fn first cap) w:=fun _ _ _ _=>rfl
 have HH:Hid (RunC HR):=H
 have MD:Hid (Mod f m):=md
 have BD:Hid (∀ i,i<m→0≤f i∧f i<256):=h.bd
 have HB:Hid (BS w ao m f):=h
 clear h H md
 have NW:Hid (∀ W,BS W ao m f→Calls Tryz.prog 33 #[.slice ao m cp] W fun e w'=>(∃ p S,e=.returned (.pointer (some ⟨p,0,none⟩))∧RRd 129 w' p S f m∧∀ q,S q→W.heap.size≤q)∧Gw W w'):=fun W hb=>xnew_any ao m cp f hm W hb
 go_enter_defers Tryz.func9,Tryz.ntmps9
 go_wp2_with fail
 have X0:Hid (GB w w.heap.size (w.heap.size+1) (.pointer none) ((w.alloc (.cells #[.pointer none] 27)).alloc (.cells #[.int .i64 0] 33))):=by
  refine ⟨((Gw.refl w).alloc _ _).alloc _ _,(Box.new w _ _).gw ((Gw.refl _).alloc _ _),?_⟩
  have:=Box.new (w.alloc (.cells #[.pointer none] 27)) (.int .i64 0) 33
  rw [show (w.alloc (.cells #[.pointer none] 27)).heap.size=w.heap.size+1 by simp] at this
  exact this
 have Z0:Hid (((w.alloc (.cells #[.pointer none] 27)).alloc (.cells #[.int .i64 0] 33)).heap.size=w.heap.size+2):=by show _=_;simp
 generalize ((w.alloc (.cells #[.pointer none] 27)).alloc (.cells #[.int .i64 0] 33))=w0 at X0 Z0 ⊢
 obtain ⟨br,hbr⟩:∃ br,w.heap.size=br:=⟨_,rfl⟩
 obtain ⟨be,hbe⟩:∃ be,br+1=be:=⟨_,rfl⟩
 have BB:Hid (w.heap.size≤br∧w.heap.size≤be):=⟨by omega,by omega⟩
 have z0:=Z0.out
 rw [hbr] at X0 z0
 rw [hbe] at X0
 rw [hbr,hbe]
 have ne:¬ br=be:=by omega
 refine (NW.out _ (HB.out.gw X0.out.gw)).mono ?_
 rintro e w1 ⟨⟨p,S0,rfl,rd,hS⟩,g1⟩
 have pS:=hS p (RRd.own rd)
 have np1:br≠p:=by omega
 have np2:be≠p:=by omega
 have np3:w.heap.size≤p:=by omega
 have X1:Hid (GB w br be (.pointer none) w1):=X0.out.mono g1
 have RD1:Hid (Rd w1 p S0 f m 0):=by
  show RRd _ _ _ _ _ _
  simpa using rd
 have pl1:p<w1.heap.size:=RRd.lt rd p (RRd.own rd)
 clear rd hS g1 X0 Z0 z0 NW HB hbr hbe pS
 go_wp2_with fail
 obtain ⟨bi,hbi⟩:∃ bi,w1.heap.size=bi:=⟨_,rfl⟩
 have X2:Hid (GB w br be (.pointer none) (w1.alloc (.cells #[.pointer (some ⟨p,0,none⟩)] 74))):=X1.out.mono ((Gw.refl w1).alloc _ _)
 have RD2:Hid (Rd (w1.alloc (.cells #[.pointer (some ⟨p,0,none⟩)] 74)) p S0 f m 0):=RD1.out.gw ((Gw.refl w1).alloc _ _)
 have BX2:Hid ((w1.alloc (.cells #[.pointer (some ⟨p,0,none⟩)] 74)).heap[bi]?=some (.cells #[.pointer (some ⟨p,0,none⟩)] 74 (0,0))):=hbi▸heap_alloc_new w1 _
 rw [hbi]
 have np4:bi≠p:=by omega
 generalize w1.alloc (.cells #[.pointer (some ⟨p,0,none⟩)] 74)=w2 at X2 RD2 BX2 ⊢
 clear X1 RD1 hbi pl1
 have BI:Hid (∀ W W',W.heap[bi]?=some (.cells #[.pointer (some ⟨p,0,none⟩)] 74 (0,0))→Upd p W W'→W'.heap[bi]?=some (.cells #[.pointer (some ⟨p,0,none⟩)] 74 (0,0))):=fun W W' hb u=>(u.blk bi np4 (Array.getElem?_eq_some_iff.1 hb).1).trans hb
 refine (jword ⟨#[73,78,67,49]⟩ hm RD2.out).mono ?_
 rintro e w3 hq
 rcases hq with ⟨q1,rfl,q3⟩ | ⟨q1,rfl,q3⟩
 rotate_left
 ·have GX:Hid (GB w br be (.pointer none) w3):=X2.out.upd q3 np3 np1 np2
  have NF:Hid (¬ Fit f m):=fun t=>q1 ⟨t.1.hd.1,head_lies.2 t.1.hd.2⟩
  clear q1 q3 X2 RD2 BX2
  go_wp2_with fail
  refine leaves_cons (f:=31) (args:=#[.pointer (some ⟨br,0,none⟩), .pointer (some ⟨be,0,none⟩)]) (by simp) (by simp [go_sem]) ?_
  refine (caught12 br be _ _ 120 ne _ GX.out.rx.cell GX.out.rx.fz GX.out.ex.cell GX.out.ex.fz).mono ?_
  rintro e u' wz ⟨rfl,rfl,rfl⟩
  have cz:=(Box.other (GX.out.rx.set (.pointer none)) ⟨be,0,none⟩ (.int .i64 120) ne).cell
  have dz:=(Box.set (Box.other GX.out.ex ⟨br,0,none⟩ (.pointer none) (fun e=>ne e.symm)) (.int .i64 120)).cell
  exact ⟨.tuple #[.pointer none, .int .i64 120],by simp [results,Tryz.results9,go_sem,cz,dz], .inr ⟨NF.out,rfl⟩,(GX.out.gw.setCell (by show w.heap.size≤br;exact BB.out.1) _).setCell (by show w.heap.size≤be;exact BB.out.2) _⟩
 have Q3:Hid (4≤m∧Lies f 0 headB):=⟨q1.1,head_lies.1 q1.2⟩
 obtain ⟨u3,S3,rd3,_⟩:=q3
 have X3:Hid (GB w br be (.pointer none) w3):=X2.out.upd u3 np3 np1 np2
 have RD3:Hid (Rd w3 p S3 f m 4):=rd3
 have BX3:Hid (w3.heap[bi]?=some (.cells #[.pointer (some ⟨p,0,none⟩)] 74 (0,0))):=BI.out _ _ BX2.out u3
 obtain ⟨x3,_⟩:=rd_cell BX3.out
 have l3:bi<w3.heap.size:=(Array.getElem?_eq_some_iff.1 BX3.out).1
 clear u3 rd3 q1 X2 RD2 BX2
 go_wp2_with fail
 refine (jcount 64 (by decide) (by decide) hm Q3.out.1 RD3.out).mono ?_
 rintro e w4 hq
 rcases hq with ⟨q1,rfl,q3⟩ | ⟨q1,rfl,q3⟩
 rotate_left
 ·have GX:Hid (GB w br be (.pointer none) w4):=X3.out.upd q3 np3 np1 np2
  have NF:Hid (¬ Fit f m):=fun t=>q1 t.1.ep
  clear q1 q3 X3 RD3 BX3 x3
  go_wp2_with fail
  refine leaves_cons (f:=31) (args:=#[.pointer (some ⟨br,0,none⟩), .pointer (some ⟨be,0,none⟩)]) (by simp) (by simp [go_sem]) ?_
  refine (caught12 br be _ _ 120 ne _ GX.out.rx.cell GX.out.rx.fz GX.out.ex.cell GX.out.ex.fz).mono ?_
  rintro e u' wz ⟨rfl,rfl,rfl⟩
  have cz:=(Box.other (GX.out.rx.set (.pointer none)) ⟨be,0,none⟩ (.int .i64 120) ne).cell
  have dz:=(Box.set (Box.other GX.out.ex ⟨br,0,none⟩ (.pointer none) (fun e=>ne e.symm)) (.int .i64 120)).cell
  exact ⟨.tuple #[.pointer none, .int .i64 120],by simp [results,Tryz.results9,go_sem,cz,dz], .inr ⟨NF.out,rfl⟩,(GX.out.gw.setCell (by show w.heap.size≤br;exact BB.out.1) _).setCell (by show w.heap.size≤be;exact BB.out.2) _⟩
 have Q4:Hid (12≤m∧numR f 4 8≤64):=q1
 obtain ⟨u3,S4,rd3,_⟩:=q3
 have X4:Hid (GB w br be (.pointer none) w4):=X3.out.upd u3 np3 np1 np2
 have RD4:Hid (Rd w4 p S4 f m 12):=rd3
 have BX4:Hid (w4.heap[bi]?=some (.cells #[.pointer (some ⟨p,0,none⟩)] 74 (0,0))):=BI.out _ _ BX3.out u3
 obtain ⟨x4,_⟩:=rd_cell BX4.out
 have l4:bi<w4.heap.size:=(Array.getElem?_eq_some_iff.1 BX4.out).1
 clear u3 rd3 q1 X3 RD3 BX3 x3 l3
 have ep0:0≤numR f 4 8:=(num_bd8 BD.out (show 4+8≤m from Q4.out.1)).1
 have EPS:Hid (0≤numR f 4 8∧numR f 4 8≤64):=⟨ep0,Q4.out.2⟩
 clear ep0
 obtain ⟨eps,heps⟩:∃ eps,numR f 4 8=eps:=⟨_,rfl⟩
 have HE:Hid (numR f 4 8=eps):=heps
 rw [heps] at EPS
 rw [show numR f 4 8=eps from heps]
 clear heps
 go_wp2_with fail
 refine (jentries hm MD.out Q4.out.1 BD.out RD4.out).mono ?_
 rintro e w5 hq
 rcases hq with ⟨q1,eb,rfl,qb,qe,q3⟩ | ⟨q1,rfl,q3⟩
 rotate_left
 ·have GX:Hid (GB w br be (.pointer none) w5):=X4.out.upd q3 np3 np1 np2
  have NF:Hid (¬ Fit f m):=fun t=>q1 ⟨t.1.nn,t.1.en⟩
  clear q1 q3 X4 RD4 BX4 x4
  go_wp2_with fail
  refine leaves_cons (f:=31) (args:=#[.pointer (some ⟨br,0,none⟩), .pointer (some ⟨be,0,none⟩)]) (by simp) (by simp [go_sem]) ?_
  refine (caught12 br be _ _ 120 ne _ GX.out.rx.cell GX.out.rx.fz GX.out.ex.cell GX.out.ex.fz).mono ?_
  rintro e u' wz ⟨rfl,rfl,rfl⟩
  have cz:=(Box.other (GX.out.rx.set (.pointer none)) ⟨be,0,none⟩ (.int .i64 120) ne).cell
  have dz:=(Box.set (Box.other GX.out.ex ⟨br,0,none⟩ (.pointer none) (fun e=>ne e.symm)) (.int .i64 120)).cell
  exact ⟨.tuple #[.pointer none, .int .i64 120],by simp [results,Tryz.results9,go_sem,cz,dz], .inr ⟨NF.out,rfl⟩,(GX.out.gw.setCell (by show w.heap.size≤br;exact BB.out.1) _).setCell (by show w.heap.size≤be;exact BB.out.2) _⟩
 have Q5:Hid (EntOK f m):=q1
 obtain ⟨u3,S5,rd3,_⟩:=q3
 have X5:Hid (GB w br be (.pointer none) w5):=X4.out.upd u3 np3 np1 np2
 have RD5:Hid (Rd w5 p S5 f m (eOff f (nF f))):=rd3
 have BX5:Hid (w5.heap[bi]?=some (.cells #[.pointer (some ⟨p,0,none⟩)] 74 (0,0))):=BI.out _ _ BX4.out u3
 have E5:Hid (ES w5 (some ⟨eb,0,none⟩) (nF f) (kF f) (vF f) (gF f)):=qe
 have np5:eb≠p:=by have:=RD4.out.pl;omega
 have n1:Hid (nF f≤2000000):=MD.out.n1 q1.room
 have oe:Hid (eOff f (nF f)≤m):=by
  show _≤_
  cases hnn:nF f with
  | zero=>exact q1.1.1
  | succ i=>exact (q1.2 i (by omega)).2.2
 clear u3 rd3 q1 X4 RD4 BX4 x4 l4 qe qb
 go_wp2_with fail
 obtain ⟨x5,_⟩:=rd_cell BX5.out
 have l5:bi<w5.heap.size:=(Array.getElem?_eq_some_iff.1 BX5.out).1
 have p5:=RD5.out.pl
 have KO:Hid (∀ W,Gw w5 W→Calls Tryz.prog 38 #[.slice (some ⟨eb,0,none⟩) (nF f) (nF f)] W fun e w'=>(∃ b,e=.returned (.slice (some ⟨b,0,none⟩) (nF f) (nF f))∧W.heap.size≤b∧KS w' (some ⟨b,0,none⟩) (nF f) (kF f))∧Gw W w'):=fun W g=>(jkeysof (some ⟨eb,0,none⟩) (nF f) (nF f) (kF f) (vF f) (gF f) (by have:=n1.out;omega) W (E5.out.gw g)).mono fun e w' ⟨⟨b,a1,a2,a3⟩,a4⟩=>⟨⟨b,a1,a2,ks_row12 a3 fun i hi=>(E5.out.bd i hi).1⟩,a4⟩
 have LVC:Hid (∀ W b,Gw w5 W→b≠p→KS W (some ⟨b,0,none⟩) (nF f) (kF f)→_):=fun W b g hb ks=>jlevels hm MD.out oe.out BD.out n1.out (some ⟨b,0,none⟩) (nF f) (fun a ha=>by cases ha;exact hb) ks (RD5.out.gw g)
 obtain ⟨n,hn⟩:∃ n,nF f=n:=⟨_,rfl⟩
 have HN:Hid (nF f=n):=hn
 rw [hn] at KO LVC ⊢
 clear hn
 by_cases lvo:LvsOK f m
 ·have LVO:Hid (LvsOK f m):=lvo
  have LV:Hid (∀ W b,Gw w5 W→b≠p→KS W (some ⟨b,0,none⟩) n (kF f)→Calls Tryz.prog 37 #[.agg #[.pointer (some ⟨p,0,none⟩)], .slice (some ⟨b,0,none⟩) n n] W fun e w'=>∃ lb vals,e=.returned (.slice (some ⟨lb,0,none⟩) (hF f) (hF f))∧OwnV w' W.heap.size (.slice (some ⟨lb,0,none⟩) (hF f) (hF f)) (LF f) vals∧hF f≤2000000∧RStep W w' p S5 f m (lOff f (lO f) (hF f))):=fun W b g hb ks=>(LVC.out W b g hb ks).mono fun e w' hq=>by
   rcases hq with ⟨_,lb,vals,a1,a2,a3,a4⟩ | ⟨a,_⟩
   ·exact ⟨lb,vals,a1,a2,a3,a4⟩
   ·exact absurd LVO.out a
  clear lvo LVC
  refine wp_region_any (by kernel_rfl) ?_
  change wpAny _ _ _ _ _ _ _ (World.drew _)
  refine wpAny_ready (rs:=[0,1]) (by kernel_rfl) (by simp) ?_
  refine AllReady.cons rfl (fun K hK=>?_) (AllReady.cons rfl (fun K hK=>?_) AllReady.nil)
  ·go_simp
   refine hK _ _ ?_
   clear hK K
   refine wpAny_ready (rs:=[1]) (by kernel_rfl) (by simp) ?_
   refine AllReady.cons rfl (fun K hK=>?_) AllReady.nil
   go_simp
   refine hK _ _ ?_
   clear hK K
   refine wpAny_ready (rs:=[2]) (by kernel_rfl) (by simp) ?_
   refine AllReady.cons rfl (fun K hK=>?_) AllReady.nil
   go_simp
   refine (KO.out _ (Gw.drew (Gw.refl w5))).mono ?_
   rintro e w6 ⟨⟨kb,rfl,hkb,ks6⟩,g6⟩
   have G6:Hid (Gw w5 w6):=(Gw.drew (Gw.refl w5)).trans g6
   have K6:Hid (KS w6 (some ⟨kb,0,none⟩) n (kF f)∧kb≠p):=⟨ks6,by have h9:w5.heap.size≤kb:=hkb;omega⟩
   have x6:=(G6.out.cell bi 0 l5).trans x5
   have l6:bi<w6.heap.size:=Nat.lt_of_lt_of_le l5 G6.out.size
   clear ks6 g6 hkb
   refine hK _ _ ?_
   clear hK K
   refine wpAny_ready (rs:=[3]) (by kernel_rfl) (by simp) ?_
   refine AllReady.cons rfl (fun K hK=>?_) AllReady.nil
   go_simp
   refine (LV.out _ _ G6.out K6.out.2 K6.out.1).mono ?_
   rintro e w7 ⟨lb,vals,rfl,ov7,h7,rs7⟩
   have O7:Hid (OwnV w7 w6.heap.size (.slice (some ⟨lb,0,none⟩) (hF f) (hF f)) (LF f) vals∧hF f≤2000000∧RStep w6 w7 p S5 f m (lOff f (lO f) (hF f))):=⟨ov7,h7,rs7⟩
   clear ov7 h7 rs7
   refine hK _ _ ?_
   clear hK K
   refine wpAny_ready (rs:=[4]) (by kernel_rfl) (by simp) ?_
   refine AllReady.cons rfl (fun K hK=>?_) AllReady.nil
   go_simp
   refine hK _ _ ?_
   clear hK K
   refine wpAny_done (by kernel_rfl) ?_ _
   have LVZ:Hid (hF f≤2000000):=O7.out.2.1
   obtain ⟨u7,S7,rd7,_⟩:=O7.out.2.2
   have X7:Hid (GB w br be (.pointer none) w7):=(X5.out.mono G6.out).upd u7 np3 np1 np2
   have RD7:Hid (Rd w7 p S7 f m (lOff f (lO f) (hF f))):=rd7
   have BX7:=BI.out _ _ ((G6.out.below.block _ l5).trans BX5.out) u7
   obtain ⟨x7,_⟩:=rd_cell BX7
   have l7:bi<w7.heap.size:=(Array.getElem?_eq_some_iff.1 BX7).1
   have E7:Hid (ES w7 (some ⟨eb,0,none⟩) (nF f) (kF f) (vF f) (gF f)):=(E5.out.gw G6.out).upd u7 (fun a ha=>by cases ha;exact np5)
   have OK7:=(LF_ok BD.out (fun i hi=>(E5.out.bd i hi).1) (hF f) (Nat.le_refl _) LVO.out.2).1
   have OKL:Hid (∀ i,i<(LF f).length→∀ j,j<((LF f).getD i []).length→(((LF f).getD i []).getD j sg0).ok):=fun i hi=>OK7 i (by rw [LF_len] at hi;exact hi)
   have V7:Hid (VS w7 (some ⟨lb,0,none⟩) (LF f)):=by
    have o7:=O7.out.1
    rw [←LF_len] at o7
    exact (o7.vsf OKL.out).vs
   have SH7:Hid (Short (LF f)):=⟨by rw [LF_len];exact LVZ.out,fun i hi=>by
    rw [LF_len] at hi
    rw [LF_at hi,lvF_len]
    exact MD.out.c1 i hi (LVO.out.2 i hi).few⟩
   have LE:=octr.left rd7
   have LEF:Hid (Calls Tryz.prog 40 #[.pointer (some ⟨p,0,none⟩)] w7 fun e w'=>e=.returned (.int .i64 ((m-lOff f (lO f) (hF f):Nat):Int))∧w'=w7):=LE
   have up7:=LVO.out.upto (hF f) (Nat.le_refl _)
   have OFC:=HH.out.of eps (some ⟨eb,0,none⟩) (nF f) (nF f) (kF f) (vF f) (gF f) (some ⟨lb,0,none⟩) (hF f) (LF f) (by have:=EPS.out;omega) (by have:=EPS.out;omega) n1.out (Nat.le_refl _) (fun h=>by cases h) SH7.out (by rw [LF_len];exact Nat.le_refl _) w7 E7.out V7.out
   rw [LF_len,HN.out] at OFC
   have OFH:Hid (Calls Tryz.prog 22 #[.slice (some ⟨eb,0,none⟩) n n, .int .i64 eps, .slice (some ⟨lb,0,none⟩) (hF f) (hF f)] w7 fun ex w'=>OfOutR HR w7 w' ex eps (kF f) (vF f) (gF f) n (LF f)∧Gw w7 w'):=OFC
   clear O7 u7 rd7 OK7 LE OFC BX7 x6 l6 K6 x5 l5 p5 KO LV
   go_wp2_with fail
   refine LEF.out.mono ?_
   rintro e w8 ⟨rfl,hw⟩
   subst hw
   by_cases al:lOff f (lO f) (hF f)=m
   ·have t0:(((m-lOff f (lO f) (hF f):Nat):Int) == 0)=true:=by simp;omega
    have t1:m-lOff f (lO f) (hF f)=0:=by omega
    have t2:m≤lOff f (lO f) (hF f):=by omega
    have AL:Hid (lOff f (lO f) (hF f)=m):=al
    clear LEF al up7
    rw [t1]
    go_wp2_with fail
    refine (jneed_ok _).mono ?_
    rintro e w8 ⟨rfl,hw⟩
    subst hw
    go_wp2_with fail
    refine OFH.out.mono ?_
    rintro e w9 ⟨⟨E,hE,hX⟩,g9⟩
    have X9:Hid (GB w br be (.pointer none) w9):=X7.out.mono g9
    have G9:Hid (Gw w8 w9):=g9
    have OE:Hid (OfE eps (kF f) (vF f) (gF f) n (LF f) E):=hE
    clear g9 hE OFH
    have rc:=X9.out.rx.cell
    have rf:=X9.out.rx.fz
    have rl:=X9.out.rx.lt
    rcases hX with ⟨e0,rfl⟩ | ⟨e0,pp,SS,rfl,hS,hR⟩
    ·have t3:(E == 0)=false:=by simpa using e0
     have GX:Hid (GB w br be (.pointer none) (w9.setCell ⟨br,0,none⟩ (.pointer none))):=⟨X9.out.gw.setCell (by show w.heap.size≤br;exact BB.out.1) _,X9.out.rx.set _,X9.out.ex.other _ _ (fun e=>ne e.symm)⟩
     have NF:Hid (¬ Fit f m):=fun t=>e0 (by
      have:=t.2
      rw [HE.out,HN.out] at this
      exact OE.out.one this)
     clear e0
     go_wp2_with fail
     refine (jneed_bad _).mono ?_
     rintro e wa ⟨rfl,hw⟩
     subst hw
     go_wp2_with fail
     refine leaves_cons (f:=31) (args:=#[.pointer (some ⟨br,0,none⟩), .pointer (some ⟨be,0,none⟩)]) (by simp) (by simp [go_sem]) ?_
     refine (caught12 br be _ _ 120 ne _ GX.out.rx.cell GX.out.rx.fz GX.out.ex.cell GX.out.ex.fz).mono ?_
     rintro e u' wz ⟨rfl,rfl,rfl⟩
     have cz:=(Box.other (GX.out.rx.set (.pointer none)) ⟨be,0,none⟩ (.int .i64 120) ne).cell
     have dz:=(Box.set (Box.other GX.out.ex ⟨br,0,none⟩ (.pointer none) (fun e=>ne e.symm)) (.int .i64 120)).cell
     exact ⟨.tuple #[.pointer none, .int .i64 120],by simp [results,Tryz.results9,go_sem,cz,dz], .inr ⟨NF.out,rfl⟩,(GX.out.gw.setCell (by show w.heap.size≤br;exact BB.out.1) _).setCell (by show w.heap.size≤be;exact BB.out.2) _⟩
    ·subst e0
     have FT:Fit f m:=⟨⟨Q3.out,Q4.out,Q5.out.1,Q5.out.2,LVO.out.1,LVO.out.2,AL.out⟩,by rw [HE.out,HN.out];exact OE.out⟩
     have sB:∀ q,SS q→w.heap.size≤q:=fun q hq=>by have:=hS q hq;have:=X7.out.gw.size;omega
     have nb:∀ q,SS q→q≠br∧q≠be:=fun q hq=>by
      have:=hS q hq
      have a:=X7.out.rx.lt
      have b:=X7.out.ex.lt
      omega
     have RES:Hid (GetOut HR w (((w9.setCell ⟨br,0,none⟩ (.pointer (some ⟨pp,0,none⟩))).setCell ⟨br,0,none⟩ (.pointer (some ⟨pp,0,none⟩))).setCell ⟨be,0,none⟩ (.int .i64 0)) (.returned (.tuple #[.pointer (some ⟨pp,0,none⟩), .int .i64 0])) f m):=by
      have hR2:HR (((w9.setCell ⟨br,0,none⟩ (.pointer (some ⟨pp,0,none⟩))).setCell ⟨br,0,none⟩ (.pointer (some ⟨pp,0,none⟩))).setCell ⟨be,0,none⟩ (.int .i64 0)) pp SS eps (kF f) (vF f) (gF f) n (LF f):=HH.out.keep hR fun q hq=>by
       rw [Go.Deep.blk_setCell_other _ _ _ _ (nb q hq).2,Go.Deep.blk_setCell_other _ _ _ _ (nb q hq).1,Go.Deep.blk_setCell_other _ _ _ _ (nb q hq).1]
      refine .inl ⟨FT,pp,SS,rfl,sB,?_,?_⟩
      ·rw [HE.out,HN.out];exact hR2
      ·rw [HE.out]
       have h2:=HH.out.ready hR2
       rw [←HN.out] at h2
       exact ⟨h2,by rw [HN.out];exact OE.out,E7.out.bd,OKL.out⟩
     have GF:Hid (Gw w (((w9.setCell ⟨br,0,none⟩ (.pointer (some ⟨pp,0,none⟩))).setCell ⟨br,0,none⟩ (.pointer (some ⟨pp,0,none⟩))).setCell ⟨be,0,none⟩ (.int .i64 0))):=((X9.out.gw.setCell (by show w.heap.size≤br;exact BB.out.1) _).setCell (by show w.heap.size≤br;exact BB.out.1) _).setCell (by show w.heap.size≤be;exact BB.out.2) _
     have ec:=X9.out.ex.cell
     have ef:=X9.out.ex.fz
     have el:=X9.out.ex.lt
     have ne':¬ be=br:=fun e=>ne e.symm
     have c5:=(Box.other ((X9.out.rx.set (.pointer (some ⟨pp,0,none⟩))).set (.pointer (some ⟨pp,0,none⟩))) ⟨be,0,none⟩ (.int .i64 0) ne).cell
     have d5:=(Box.set (Box.other (Box.other X9.out.ex ⟨br,0,none⟩ (.pointer (some ⟨pp,0,none⟩)) ne') ⟨br,0,none⟩ (.pointer (some ⟨pp,0,none⟩)) ne') (.int .i64 0)).cell
     clear hR hS FT sB nb
     go_wp2_with fail
     refine (jneed_ok _).mono ?_
     rintro e wa ⟨rfl,hw⟩
     subst hw
     go_wp2_with fail
     refine leaves_cons (f:=31) (args:=#[.pointer (some ⟨br,0,none⟩), .pointer (some ⟨be,0,none⟩)]) (by simp) (by simp [go_sem]) ?_
     refine (idle12 br be _).mono ?_
     rintro e u' wz ⟨rfl,rfl,rfl⟩
     exact ⟨.tuple #[.pointer (some ⟨pp,0,none⟩), .int .i64 0],by simp [results,Tryz.results9,go_sem,c5,d5],RES.out,GF.out⟩
   ·have t0:(((m-lOff f (lO f) (hF f):Nat):Int) == 0)=false:=by simp;omega
    have t1:¬ m-lOff f (lO f) (hF f)=0:=by omega
    have t2:¬ m≤lOff f (lO f) (hF f):=by omega
    have NF:Hid (¬ Fit f m):=fun t=>al t.1.all
    have GX:Hid (GB w br be (.pointer none) w8):=X7.out
    generalize m-lOff f (lO f) (hF f)=mm at *
    clear LEF al up7 t2 OFH
    go_wp2_with fail
    refine (jneed_bad _).mono ?_
    rintro e wa ⟨rfl,hw⟩
    subst hw
    go_wp2_with fail
    refine leaves_cons (f:=31) (args:=#[.pointer (some ⟨br,0,none⟩), .pointer (some ⟨be,0,none⟩)]) (by simp) (by simp [go_sem]) ?_
    refine (caught12 br be _ _ 120 ne _ GX.out.rx.cell GX.out.rx.fz GX.out.ex.cell GX.out.ex.fz).mono ?_
    rintro e u' wz ⟨rfl,rfl,rfl⟩
    have cz:=(Box.other (GX.out.rx.set (.pointer none)) ⟨be,0,none⟩ (.int .i64 120) ne).cell
    have dz:=(Box.set (Box.other GX.out.ex ⟨br,0,none⟩ (.pointer none) (fun e=>ne e.symm)) (.int .i64 120)).cell
    exact ⟨.tuple #[.pointer none, .int .i64 120],by simp [results,Tryz.results9,go_sem,cz,dz], .inr ⟨NF.out,rfl⟩,(GX.out.gw.setCell (by show w.heap.size≤br;exact BB.out.1) _).setCell (by show w.heap.size≤be;exact BB.out.2) _⟩
  ·go_simp
   refine hK _ _ ?_
   clear hK K
   refine wpAny_ready (rs:=[0,2]) (by kernel_rfl) (by simp) ?_
   refine AllReady.cons rfl (fun K hK=>?_) (AllReady.cons rfl (fun K hK=>?_) AllReady.nil)
   ·go_simp
    refine hK _ _ ?_
    clear hK K
    refine wpAny_ready (rs:=[2]) (by kernel_rfl) (by simp) ?_
    refine AllReady.cons rfl (fun K hK=>?_) AllReady.nil
    go_simp
    refine (KO.out _ (Gw.drew (Gw.refl w5))).mono ?_
    rintro e w6 ⟨⟨kb,rfl,hkb,ks6⟩,g6⟩
    have G6:Hid (Gw w5 w6):=(Gw.drew (Gw.refl w5)).trans g6
    have K6:Hid (KS w6 (some ⟨kb,0,none⟩) n (kF f)∧kb≠p):=⟨ks6,by have h9:w5.heap.size≤kb:=hkb;omega⟩
    have x6:=(G6.out.cell bi 0 l5).trans x5
    have l6:bi<w6.heap.size:=Nat.lt_of_lt_of_le l5 G6.out.size
    clear ks6 g6 hkb
    refine hK _ _ ?_
    clear hK K
    refine wpAny_ready (rs:=[3]) (by kernel_rfl) (by simp) ?_
    refine AllReady.cons rfl (fun K hK=>?_) AllReady.nil
    go_simp
    refine (LV.out _ _ G6.out K6.out.2 K6.out.1).mono ?_
    rintro e w7 ⟨lb,vals,rfl,ov7,h7,rs7⟩
    have O7:Hid (OwnV w7 w6.heap.size (.slice (some ⟨lb,0,none⟩) (hF f) (hF f)) (LF f) vals∧hF f≤2000000∧RStep w6 w7 p S5 f m (lOff f (lO f) (hF f))):=⟨ov7,h7,rs7⟩
    clear ov7 h7 rs7
    refine hK _ _ ?_
    clear hK K
    refine wpAny_ready (rs:=[4]) (by kernel_rfl) (by simp) ?_
    refine AllReady.cons rfl (fun K hK=>?_) AllReady.nil
    go_simp
    refine hK _ _ ?_
    clear hK K
    refine wpAny_done (by kernel_rfl) ?_ _
    have LVZ:Hid (hF f≤2000000):=O7.out.2.1
    obtain ⟨u7,S7,rd7,_⟩:=O7.out.2.2
    have X7:Hid (GB w br be (.pointer none) w7):=(X5.out.mono G6.out).upd u7 np3 np1 np2
    have RD7:Hid (Rd w7 p S7 f m (lOff f (lO f) (hF f))):=rd7
    have BX7:=BI.out _ _ ((G6.out.below.block _ l5).trans BX5.out) u7
    obtain ⟨x7,_⟩:=rd_cell BX7
    have l7:bi<w7.heap.size:=(Array.getElem?_eq_some_iff.1 BX7).1
    have E7:Hid (ES w7 (some ⟨eb,0,none⟩) (nF f) (kF f) (vF f) (gF f)):=(E5.out.gw G6.out).upd u7 (fun a ha=>by cases ha;exact np5)
    have OK7:=(LF_ok BD.out (fun i hi=>(E5.out.bd i hi).1) (hF f) (Nat.le_refl _) LVO.out.2).1
    have OKL:Hid (∀ i,i<(LF f).length→∀ j,j<((LF f).getD i []).length→(((LF f).getD i []).getD j sg0).ok):=fun i hi=>OK7 i (by rw [LF_len] at hi;exact hi)
    have V7:Hid (VS w7 (some ⟨lb,0,none⟩) (LF f)):=by
     have o7:=O7.out.1
     rw [←LF_len] at o7
     exact (o7.vsf OKL.out).vs
    have SH7:Hid (Short (LF f)):=⟨by rw [LF_len];exact LVZ.out,fun i hi=>by
     rw [LF_len] at hi
     rw [LF_at hi,lvF_len]
     exact MD.out.c1 i hi (LVO.out.2 i hi).few⟩
    have LE:=octr.left rd7
    have LEF:Hid (Calls Tryz.prog 40 #[.pointer (some ⟨p,0,none⟩)] w7 fun e w'=>e=.returned (.int .i64 ((m-lOff f (lO f) (hF f):Nat):Int))∧w'=w7):=LE
    have up7:=LVO.out.upto (hF f) (Nat.le_refl _)
    have OFC:=HH.out.of eps (some ⟨eb,0,none⟩) (nF f) (nF f) (kF f) (vF f) (gF f) (some ⟨lb,0,none⟩) (hF f) (LF f) (by have:=EPS.out;omega) (by have:=EPS.out;omega) n1.out (Nat.le_refl _) (fun h=>by cases h) SH7.out (by rw [LF_len];exact Nat.le_refl _) w7 E7.out V7.out
    rw [LF_len,HN.out] at OFC
    have OFH:Hid (Calls Tryz.prog 22 #[.slice (some ⟨eb,0,none⟩) n n, .int .i64 eps, .slice (some ⟨lb,0,none⟩) (hF f) (hF f)] w7 fun ex w'=>OfOutR HR w7 w' ex eps (kF f) (vF f) (gF f) n (LF f)∧Gw w7 w'):=OFC
    clear O7 u7 rd7 OK7 LE OFC BX7 x6 l6 K6 x5 l5 p5 KO LV
    go_wp2_with fail
    refine LEF.out.mono ?_
    rintro e w8 ⟨rfl,hw⟩
    subst hw
    by_cases al:lOff f (lO f) (hF f)=m
    ·have t0:(((m-lOff f (lO f) (hF f):Nat):Int) == 0)=true:=by simp;omega
     have t1:m-lOff f (lO f) (hF f)=0:=by omega
     have t2:m≤lOff f (lO f) (hF f):=by omega
     have AL:Hid (lOff f (lO f) (hF f)=m):=al
     clear LEF al up7
     rw [t1]
     go_wp2_with fail
     refine (jneed_ok _).mono ?_
     rintro e w8 ⟨rfl,hw⟩
     subst hw
     go_wp2_with fail
     refine OFH.out.mono ?_
     rintro e w9 ⟨⟨E,hE,hX⟩,g9⟩
     have X9:Hid (GB w br be (.pointer none) w9):=X7.out.mono g9
     have G9:Hid (Gw w8 w9):=g9
     have OE:Hid (OfE eps (kF f) (vF f) (gF f) n (LF f) E):=hE
     clear g9 hE OFH
     have rc:=X9.out.rx.cell
     have rf:=X9.out.rx.fz
     have rl:=X9.out.rx.lt
     rcases hX with ⟨e0,rfl⟩ | ⟨e0,pp,SS,rfl,hS,hR⟩
     ·have t3:(E == 0)=false:=by simpa using e0
      have GX:Hid (GB w br be (.pointer none) (w9.setCell ⟨br,0,none⟩ (.pointer none))):=⟨X9.out.gw.setCell (by show w.heap.size≤br;exact BB.out.1) _,X9.out.rx.set _,X9.out.ex.other _ _ (fun e=>ne e.symm)⟩
      have NF:Hid (¬ Fit f m):=fun t=>e0 (by
       have:=t.2
       rw [HE.out,HN.out] at this
       exact OE.out.one this)
      clear e0
      go_wp2_with fail
      refine (jneed_bad _).mono ?_
      rintro e wa ⟨rfl,hw⟩
      subst hw
      go_wp2_with fail
      refine leaves_cons (f:=31) (args:=#[.pointer (some ⟨br,0,none⟩), .pointer (some ⟨be,0,none⟩)]) (by simp) (by simp [go_sem]) ?_
      refine (caught12 br be _ _ 120 ne _ GX.out.rx.cell GX.out.rx.fz GX.out.ex.cell GX.out.ex.fz).mono ?_
      rintro e u' wz ⟨rfl,rfl,rfl⟩
      have cz:=(Box.other (GX.out.rx.set (.pointer none)) ⟨be,0,none⟩ (.int .i64 120) ne).cell
      have dz:=(Box.set (Box.other GX.out.ex ⟨br,0,none⟩ (.pointer none) (fun e=>ne e.symm)) (.int .i64 120)).cell
      exact ⟨.tuple #[.pointer none, .int .i64 120],by simp [results,Tryz.results9,go_sem,cz,dz], .inr ⟨NF.out,rfl⟩,(GX.out.gw.setCell (by show w.heap.size≤br;exact BB.out.1) _).setCell (by show w.heap.size≤be;exact BB.out.2) _⟩
     ·subst e0
      have FT:Fit f m:=⟨⟨Q3.out,Q4.out,Q5.out.1,Q5.out.2,LVO.out.1,LVO.out.2,AL.out⟩,by rw [HE.out,HN.out];exact OE.out⟩
      have sB:∀ q,SS q→w.heap.size≤q:=fun q hq=>by have:=hS q hq;have:=X7.out.gw.size;omega
      have nb:∀ q,SS q→q≠br∧q≠be:=fun q hq=>by
       have:=hS q hq
       have a:=X7.out.rx.lt
       have b:=X7.out.ex.lt
       omega
      have RES:Hid (GetOut HR w (((w9.setCell ⟨br,0,none⟩ (.pointer (some ⟨pp,0,none⟩))).setCell ⟨br,0,none⟩ (.pointer (some ⟨pp,0,none⟩))).setCell ⟨be,0,none⟩ (.int .i64 0)) (.returned (.tuple #[.pointer (some ⟨pp,0,none⟩), .int .i64 0])) f m):=by
       have hR2:HR (((w9.setCell ⟨br,0,none⟩ (.pointer (some ⟨pp,0,none⟩))).setCell ⟨br,0,none⟩ (.pointer (some ⟨pp,0,none⟩))).setCell ⟨be,0,none⟩ (.int .i64 0)) pp SS eps (kF f) (vF f) (gF f) n (LF f):=HH.out.keep hR fun q hq=>by
        rw [Go.Deep.blk_setCell_other _ _ _ _ (nb q hq).2,Go.Deep.blk_setCell_other _ _ _ _ (nb q hq).1,Go.Deep.blk_setCell_other _ _ _ _ (nb q hq).1]
       refine .inl ⟨FT,pp,SS,rfl,sB,?_,?_⟩
       ·rw [HE.out,HN.out];exact hR2
       ·rw [HE.out]
        have h2:=HH.out.ready hR2
        rw [←HN.out] at h2
        exact ⟨h2,by rw [HN.out];exact OE.out,E7.out.bd,OKL.out⟩
      have GF:Hid (Gw w (((w9.setCell ⟨br,0,none⟩ (.pointer (some ⟨pp,0,none⟩))).setCell ⟨br,0,none⟩ (.pointer (some ⟨pp,0,none⟩))).setCell ⟨be,0,none⟩ (.int .i64 0))):=((X9.out.gw.setCell (by show w.heap.size≤br;exact BB.out.1) _).setCell (by show w.heap.size≤br;exact BB.out.1) _).setCell (by show w.heap.size≤be;exact BB.out.2) _
      have ec:=X9.out.ex.cell
      have ef:=X9.out.ex.fz
      have el:=X9.out.ex.lt
      have ne':¬ be=br:=fun e=>ne e.symm
      have c5:=(Box.other ((X9.out.rx.set (.pointer (some ⟨pp,0,none⟩))).set (.pointer (some ⟨pp,0,none⟩))) ⟨be,0,none⟩ (.int .i64 0) ne).cell
      have d5:=(Box.set (Box.other (Box.other X9.out.ex ⟨br,0,none⟩ (.pointer (some ⟨pp,0,none⟩)) ne') ⟨br,0,none⟩ (.pointer (some ⟨pp,0,none⟩)) ne') (.int .i64 0)).cell
      clear hR hS FT sB nb
      go_wp2_with fail
      refine (jneed_ok _).mono ?_
      rintro e wa ⟨rfl,hw⟩
      subst hw
      go_wp2_with fail
      refine leaves_cons (f:=31) (args:=#[.pointer (some ⟨br,0,none⟩), .pointer (some ⟨be,0,none⟩)]) (by simp) (by simp [go_sem]) ?_
      refine (idle12 br be _).mono ?_
      rintro e u' wz ⟨rfl,rfl,rfl⟩
      exact ⟨.tuple #[.pointer (some ⟨pp,0,none⟩), .int .i64 0],by simp [results,Tryz.results9,go_sem,c5,d5],RES.out,GF.out⟩
    ·have t0:(((m-lOff f (lO f) (hF f):Nat):Int) == 0)=false:=by simp;omega
     have t1:¬ m-lOff f (lO f) (hF f)=0:=by omega
     have t2:¬ m≤lOff f (lO f) (hF f):=by omega
     have NF:Hid (¬ Fit f m):=fun t=>al t.1.all
     have GX:Hid (GB w br be (.pointer none) w8):=X7.out
     generalize m-lOff f (lO f) (hF f)=mm at *
     clear LEF al up7 t2 OFH
     go_wp2_with fail
     refine (jneed_bad _).mono ?_
     rintro e wa ⟨rfl,hw⟩
     subst hw
     go_wp2_with fail
     refine leaves_cons (f:=31) (args:=#[.pointer (some ⟨br,0,none⟩), .pointer (some ⟨be,0,none⟩)]) (by simp) (by simp [go_sem]) ?_
     refine (caught12 br be _ _ 120 ne _ GX.out.rx.cell GX.out.rx.fz GX.out.ex.cell GX.out.ex.fz).mono ?_
     rintro e u' wz ⟨rfl,rfl,rfl⟩
     have cz:=(Box.other (GX.out.rx.set (.pointer none)) ⟨be,0,none⟩ (.int .i64 120) ne).cell
     have dz:=(Box.set (Box.other GX.out.ex ⟨br,0,none⟩ (.pointer none) (fun e=>ne e.symm)) (.int .i64 120)).cell
     exact ⟨.tuple #[.pointer none, .int .i64 120],by simp [results,Tryz.results9,go_sem,cz,dz], .inr ⟨NF.out,rfl⟩,(GX.out.gw.setCell (by show w.heap.size≤br;exact BB.out.1) _).setCell (by show w.heap.size≤be;exact BB.out.2) _⟩
   ·go_simp
    refine (KO.out _ (Gw.drew (Gw.refl w5))).mono ?_
    rintro e w6 ⟨⟨kb,rfl,hkb,ks6⟩,g6⟩
    have G6:Hid (Gw w5 w6):=(Gw.drew (Gw.refl w5)).trans g6
    have K6:Hid (KS w6 (some ⟨kb,0,none⟩) n (kF f)∧kb≠p):=⟨ks6,by have h9:w5.heap.size≤kb:=hkb;omega⟩
    have x6:=(G6.out.cell bi 0 l5).trans x5
    have l6:bi<w6.heap.size:=Nat.lt_of_lt_of_le l5 G6.out.size
    clear ks6 g6 hkb
    refine hK _ _ ?_
    clear hK K
    refine wpAny_ready (rs:=[0]) (by kernel_rfl) (by simp) ?_
    refine AllReady.cons rfl (fun K hK=>?_) AllReady.nil
    go_simp
    refine hK _ _ ?_
    clear hK K
    refine wpAny_ready (rs:=[3]) (by kernel_rfl) (by simp) ?_
    refine AllReady.cons rfl (fun K hK=>?_) AllReady.nil
    go_simp
    refine (LV.out _ _ G6.out K6.out.2 K6.out.1).mono ?_
    rintro e w7 ⟨lb,vals,rfl,ov7,h7,rs7⟩
    have O7:Hid (OwnV w7 w6.heap.size (.slice (some ⟨lb,0,none⟩) (hF f) (hF f)) (LF f) vals∧hF f≤2000000∧RStep w6 w7 p S5 f m (lOff f (lO f) (hF f))):=⟨ov7,h7,rs7⟩
    clear ov7 h7 rs7
    refine hK _ _ ?_
    clear hK K
    refine wpAny_ready (rs:=[4]) (by kernel_rfl) (by simp) ?_
    refine AllReady.cons rfl (fun K hK=>?_) AllReady.nil
    go_simp
    refine hK _ _ ?_
    clear hK K
    refine wpAny_done (by kernel_rfl) ?_ _
    have LVZ:Hid (hF f≤2000000):=O7.out.2.1
    obtain ⟨u7,S7,rd7,_⟩:=O7.out.2.2
    have X7:Hid (GB w br be (.pointer none) w7):=(X5.out.mono G6.out).upd u7 np3 np1 np2
    have RD7:Hid (Rd w7 p S7 f m (lOff f (lO f) (hF f))):=rd7
    have BX7:=BI.out _ _ ((G6.out.below.block _ l5).trans BX5.out) u7
    obtain ⟨x7,_⟩:=rd_cell BX7
    have l7:bi<w7.heap.size:=(Array.getElem?_eq_some_iff.1 BX7).1
    have E7:Hid (ES w7 (some ⟨eb,0,none⟩) (nF f) (kF f) (vF f) (gF f)):=(E5.out.gw G6.out).upd u7 (fun a ha=>by cases ha;exact np5)
    have OK7:=(LF_ok BD.out (fun i hi=>(E5.out.bd i hi).1) (hF f) (Nat.le_refl _) LVO.out.2).1
    have OKL:Hid (∀ i,i<(LF f).length→∀ j,j<((LF f).getD i []).length→(((LF f).getD i []).getD j sg0).ok):=fun i hi=>OK7 i (by rw [LF_len] at hi;exact hi)
    have V7:Hid (VS w7 (some ⟨lb,0,none⟩) (LF f)):=by
     have o7:=O7.out.1
     rw [←LF_len] at o7
     exact (o7.vsf OKL.out).vs
    have SH7:Hid (Short (LF f)):=⟨by rw [LF_len];exact LVZ.out,fun i hi=>by
     rw [LF_len] at hi
     rw [LF_at hi,lvF_len]
     exact MD.out.c1 i hi (LVO.out.2 i hi).few⟩
    have LE:=octr.left rd7
    have LEF:Hid (Calls Tryz.prog 40 #[.pointer (some ⟨p,0,none⟩)] w7 fun e w'=>e=.returned (.int .i64 ((m-lOff f (lO f) (hF f):Nat):Int))∧w'=w7):=LE
    have up7:=LVO.out.upto (hF f) (Nat.le_refl _)
    have OFC:=HH.out.of eps (some ⟨eb,0,none⟩) (nF f) (nF f) (kF f) (vF f) (gF f) (some ⟨lb,0,none⟩) (hF f) (LF f) (by have:=EPS.out;omega) (by have:=EPS.out;omega) n1.out (Nat.le_refl _) (fun h=>by cases h) SH7.out (by rw [LF_len];exact Nat.le_refl _) w7 E7.out V7.out
    rw [LF_len,HN.out] at OFC
    have OFH:Hid (Calls Tryz.prog 22 #[.slice (some ⟨eb,0,none⟩) n n, .int .i64 eps, .slice (some ⟨lb,0,none⟩) (hF f) (hF f)] w7 fun ex w'=>OfOutR HR w7 w' ex eps (kF f) (vF f) (gF f) n (LF f)∧Gw w7 w'):=OFC
    clear O7 u7 rd7 OK7 LE OFC BX7 x6 l6 K6 x5 l5 p5 KO LV
    go_wp2_with fail
    refine LEF.out.mono ?_
    rintro e w8 ⟨rfl,hw⟩
    subst hw
    by_cases al:lOff f (lO f) (hF f)=m
    ·have t0:(((m-lOff f (lO f) (hF f):Nat):Int) == 0)=true:=by simp;omega
     have t1:m-lOff f (lO f) (hF f)=0:=by omega
     have t2:m≤lOff f (lO f) (hF f):=by omega
     have AL:Hid (lOff f (lO f) (hF f)=m):=al
     clear LEF al up7
     rw [t1]
     go_wp2_with fail
     refine (jneed_ok _).mono ?_
     rintro e w8 ⟨rfl,hw⟩
     subst hw
     go_wp2_with fail
     refine OFH.out.mono ?_
     rintro e w9 ⟨⟨E,hE,hX⟩,g9⟩
     have X9:Hid (GB w br be (.pointer none) w9):=X7.out.mono g9
     have G9:Hid (Gw w8 w9):=g9
     have OE:Hid (OfE eps (kF f) (vF f) (gF f) n (LF f) E):=hE
     clear g9 hE OFH
     have rc:=X9.out.rx.cell
     have rf:=X9.out.rx.fz
     have rl:=X9.out.rx.lt
     rcases hX with ⟨e0,rfl⟩ | ⟨e0,pp,SS,rfl,hS,hR⟩
     ·have t3:(E == 0)=false:=by simpa using e0
      have GX:Hid (GB w br be (.pointer none) (w9.setCell ⟨br,0,none⟩ (.pointer none))):=⟨X9.out.gw.setCell (by show w.heap.size≤br;exact BB.out.1) _,X9.out.rx.set _,X9.out.ex.other _ _ (fun e=>ne e.symm)⟩
      have NF:Hid (¬ Fit f m):=fun t=>e0 (by
       have:=t.2
       rw [HE.out,HN.out] at this
       exact OE.out.one this)
      clear e0
      go_wp2_with fail
      refine (jneed_bad _).mono ?_
      rintro e wa ⟨rfl,hw⟩
      subst hw
      go_wp2_with fail
      refine leaves_cons (f:=31) (args:=#[.pointer (some ⟨br,0,none⟩), .pointer (some ⟨be,0,none⟩)]) (by simp) (by simp [go_sem]) ?_
      refine (caught12 br be _ _ 120 ne _ GX.out.rx.cell GX.out.rx.fz GX.out.ex.cell GX.out.ex.fz).mono ?_
      rintro e u' wz ⟨rfl,rfl,rfl⟩
      have cz:=(Box.other (GX.out.rx.set (.pointer none)) ⟨be,0,none⟩ (.int .i64 120) ne).cell
      have dz:=(Box.set (Box.other GX.out.ex ⟨br,0,none⟩ (.pointer none) (fun e=>ne e.symm)) (.int .i64 120)).cell
      exact ⟨.tuple #[.pointer none, .int .i64 120],by simp [results,Tryz.results9,go_sem,cz,dz], .inr ⟨NF.out,rfl⟩,(GX.out.gw.setCell (by show w.heap.size≤br;exact BB.out.1) _).setCell (by show w.heap.size≤be;exact BB.out.2) _⟩
     ·subst e0
      have FT:Fit f m:=⟨⟨Q3.out,Q4.out,Q5.out.1,Q5.out.2,LVO.out.1,LVO.out.2,AL.out⟩,by rw [HE.out,HN.out];exact OE.out⟩
      have sB:∀ q,SS q→w.heap.size≤q:=fun q hq=>by have:=hS q hq;have:=X7.out.gw.size;omega
      have nb:∀ q,SS q→q≠br∧q≠be:=fun q hq=>by
       have:=hS q hq
       have a:=X7.out.rx.lt
       have b:=X7.out.ex.lt
       omega
      have RES:Hid (GetOut HR w (((w9.setCell ⟨br,0,none⟩ (.pointer (some ⟨pp,0,none⟩))).setCell ⟨br,0,none⟩ (.pointer (some ⟨pp,0,none⟩))).setCell ⟨be,0,none⟩ (.int .i64 0)) (.returned (.tuple #[.pointer (some ⟨pp,0,none⟩), .int .i64 0])) f m):=by
       have hR2:HR (((w9.setCell ⟨br,0,none⟩ (.pointer (some ⟨pp,0,none⟩))).setCell ⟨br,0,none⟩ (.pointer (some ⟨pp,0,none⟩))).setCell ⟨be,0,none⟩ (.int .i64 0)) pp SS eps (kF f) (vF f) (gF f) n (LF f):=HH.out.keep hR fun q hq=>by
        rw [Go.Deep.blk_setCell_other _ _ _ _ (nb q hq).2,Go.Deep.blk_setCell_other _ _ _ _ (nb q hq).1,Go.Deep.blk_setCell_other _ _ _ _ (nb q hq).1]
       refine .inl ⟨FT,pp,SS,rfl,sB,?_,?_⟩
       ·rw [HE.out,HN.out];exact hR2
       ·rw [HE.out]
        have h2:=HH.out.ready hR2
        rw [←HN.out] at h2
        exact ⟨h2,by rw [HN.out];exact OE.out,E7.out.bd,OKL.out⟩
      have GF:Hid (Gw w (((w9.setCell ⟨br,0,none⟩ (.pointer (some ⟨pp,0,none⟩))).setCell ⟨br,0,none⟩ (.pointer (some ⟨pp,0,none⟩))).setCell ⟨be,0,none⟩ (.int .i64 0))):=((X9.out.gw.setCell (by show w.heap.size≤br;exact BB.out.1) _).setCell (by show w.heap.size≤br;exact BB.out.1) _).setCell (by show w.heap.size≤be;exact BB.out.2) _
      have ec:=X9.out.ex.cell
      have ef:=X9.out.ex.fz
      have el:=X9.out.ex.lt
      have ne':¬ be=br:=fun e=>ne e.symm
      have c5:=(Box.other ((X9.out.rx.set (.pointer (some ⟨pp,0,none⟩))).set (.pointer (some ⟨pp,0,none⟩))) ⟨be,0,none⟩ (.int .i64 0) ne).cell
      have d5:=(Box.set (Box.other (Box.other X9.out.ex ⟨br,0,none⟩ (.pointer (some ⟨pp,0,none⟩)) ne') ⟨br,0,none⟩ (.pointer (some ⟨pp,0,none⟩)) ne') (.int .i64 0)).cell
      clear hR hS FT sB nb
      go_wp2_with fail
      refine (jneed_ok _).mono ?_
      rintro e wa ⟨rfl,hw⟩
      subst hw
      go_wp2_with fail
      refine leaves_cons (f:=31) (args:=#[.pointer (some ⟨br,0,none⟩), .pointer (some ⟨be,0,none⟩)]) (by simp) (by simp [go_sem]) ?_
      refine (idle12 br be _).mono ?_
      rintro e u' wz ⟨rfl,rfl,rfl⟩
      exact ⟨.tuple #[.pointer (some ⟨pp,0,none⟩), .int .i64 0],by simp [results,Tryz.results9,go_sem,c5,d5],RES.out,GF.out⟩
    ·have t0:(((m-lOff f (lO f) (hF f):Nat):Int) == 0)=false:=by simp;omega
     have t1:¬ m-lOff f (lO f) (hF f)=0:=by omega
     have t2:¬ m≤lOff f (lO f) (hF f):=by omega
     have NF:Hid (¬ Fit f m):=fun t=>al t.1.all
     have GX:Hid (GB w br be (.pointer none) w8):=X7.out
     generalize m-lOff f (lO f) (hF f)=mm at *
     clear LEF al up7 t2 OFH
     go_wp2_with fail
     refine (jneed_bad _).mono ?_
     rintro e wa ⟨rfl,hw⟩
     subst hw
     go_wp2_with fail
     refine leaves_cons (f:=31) (args:=#[.pointer (some ⟨br,0,none⟩), .pointer (some ⟨be,0,none⟩)]) (by simp) (by simp [go_sem]) ?_
     refine (caught12 br be _ _ 120 ne _ GX.out.rx.cell GX.out.rx.fz GX.out.ex.cell GX.out.ex.fz).mono ?_
     rintro e u' wz ⟨rfl,rfl,rfl⟩
     have cz:=(Box.other (GX.out.rx.set (.pointer none)) ⟨be,0,none⟩ (.int .i64 120) ne).cell
     have dz:=(Box.set (Box.other GX.out.ex ⟨br,0,none⟩ (.pointer none) (fun e=>ne e.symm)) (.int .i64 120)).cell
     exact ⟨.tuple #[.pointer none, .int .i64 120],by simp [results,Tryz.results9,go_sem,cz,dz], .inr ⟨NF.out,rfl⟩,(GX.out.gw.setCell (by show w.heap.size≤br;exact BB.out.1) _).setCell (by show w.heap.size≤be;exact BB.out.2) _⟩
 ·have LV:Hid (∀ W b,Gw w5 W→b≠p→KS W (some ⟨b,0,none⟩) n (kF f)→Calls Tryz.prog 37 #[.agg #[.pointer (some ⟨p,0,none⟩)], .slice (some ⟨b,0,none⟩) n n] W fun e w'=>e=.panicked (thrown 120)∧Upd p W w'):=fun W b g hb ks=>(LVC.out W b g hb ks).mono fun e w' hq=>by
   rcases hq with ⟨a,_⟩ | ⟨_,a1,a2⟩
   ·exact absurd a lvo
   ·exact ⟨a1,a2⟩
  have NF:Hid (¬ Fit f m):=fun t=>lvo ⟨t.1.hh,t.1.lv⟩
  clear lvo LVC
  refine wp_region_any (by kernel_rfl) ?_
  change wpAny _ _ _ _ _ _ _ (World.drew _)
  refine wpAny_ready (rs:=[0,1]) (by kernel_rfl) (by simp) ?_
  refine AllReady.cons rfl (fun K hK=>?_) (AllReady.cons rfl (fun K hK=>?_) AllReady.nil)
  ·go_simp
   refine hK _ _ ?_
   clear hK K
   refine wpAny_ready (rs:=[1]) (by kernel_rfl) (by simp) ?_
   refine AllReady.cons rfl (fun K hK=>?_) AllReady.nil
   go_simp
   refine hK _ _ ?_
   clear hK K
   refine wpAny_ready (rs:=[2]) (by kernel_rfl) (by simp) ?_
   refine AllReady.cons rfl (fun K hK=>?_) AllReady.nil
   go_simp
   refine (KO.out _ (Gw.drew (Gw.refl w5))).mono ?_
   rintro e w6 ⟨⟨kb,rfl,hkb,ks6⟩,g6⟩
   have G6:Hid (Gw w5 w6):=(Gw.drew (Gw.refl w5)).trans g6
   have K6:Hid (KS w6 (some ⟨kb,0,none⟩) n (kF f)∧kb≠p):=⟨ks6,by have h9:w5.heap.size≤kb:=hkb;omega⟩
   have x6:=(G6.out.cell bi 0 l5).trans x5
   have l6:bi<w6.heap.size:=Nat.lt_of_lt_of_le l5 G6.out.size
   clear ks6 g6 hkb
   refine hK _ _ ?_
   clear hK K
   refine wpAny_ready (rs:=[3]) (by kernel_rfl) (by simp) ?_
   refine AllReady.cons rfl (fun K hK=>?_) AllReady.nil
   go_simp
   refine (LV.out _ _ G6.out K6.out.2 K6.out.1).mono ?_
   rintro e w7 ⟨rfl,u7⟩
   have GX:Hid (GB w br be (.pointer none) w7):=(X5.out.mono G6.out).upd u7 np3 np1 np2
   clear u7
   go_wp2_with fail
   refine leaves_cons (f:=31) (args:=#[.pointer (some ⟨br,0,none⟩), .pointer (some ⟨be,0,none⟩)]) (by simp) (by simp [go_sem]) ?_
   refine (caught12 br be _ _ 120 ne _ GX.out.rx.cell GX.out.rx.fz GX.out.ex.cell GX.out.ex.fz).mono ?_
   rintro e u' wz ⟨rfl,rfl,rfl⟩
   have cz:=(Box.other (GX.out.rx.set (.pointer none)) ⟨be,0,none⟩ (.int .i64 120) ne).cell
   have dz:=(Box.set (Box.other GX.out.ex ⟨br,0,none⟩ (.pointer none) (fun e=>ne e.symm)) (.int .i64 120)).cell
   exact ⟨.tuple #[.pointer none, .int .i64 120],by simp [results,Tryz.results9,go_sem,cz,dz], .inr ⟨NF.out,rfl⟩,(GX.out.gw.setCell (by show w.heap.size≤br;exact BB.out.1) _).setCell (by show w.heap.size≤be;exact BB.out.2) _⟩
  ·go_simp
   refine hK _ _ ?_
   clear hK K
   refine wpAny_ready (rs:=[0,2]) (by kernel_rfl) (by simp) ?_
   refine AllReady.cons rfl (fun K hK=>?_) (AllReady.cons rfl (fun K hK=>?_) AllReady.nil)
   ·go_simp
    refine hK _ _ ?_
    clear hK K
    refine wpAny_ready (rs:=[2]) (by kernel_rfl) (by simp) ?_
    refine AllReady.cons rfl (fun K hK=>?_) AllReady.nil
    go_simp
    refine (KO.out _ (Gw.drew (Gw.refl w5))).mono ?_
    rintro e w6 ⟨⟨kb,rfl,hkb,ks6⟩,g6⟩
    have G6:Hid (Gw w5 w6):=(Gw.drew (Gw.refl w5)).trans g6
    have K6:Hid (KS w6 (some ⟨kb,0,none⟩) n (kF f)∧kb≠p):=⟨ks6,by have h9:w5.heap.size≤kb:=hkb;omega⟩
    have x6:=(G6.out.cell bi 0 l5).trans x5
    have l6:bi<w6.heap.size:=Nat.lt_of_lt_of_le l5 G6.out.size
    clear ks6 g6 hkb
    refine hK _ _ ?_
    clear hK K
    refine wpAny_ready (rs:=[3]) (by kernel_rfl) (by simp) ?_
    refine AllReady.cons rfl (fun K hK=>?_) AllReady.nil
    go_simp
    refine (LV.out _ _ G6.out K6.out.2 K6.out.1).mono ?_
    rintro e w7 ⟨rfl,u7⟩
    have GX:Hid (GB w br be (.pointer none) w7):=(X5.out.mono G6.out).upd u7 np3 np1 np2
    clear u7
    go_wp2_with fail
    refine leaves_cons (f:=31) (args:=#[.pointer (some ⟨br,0,none⟩), .pointer (some ⟨be,0,none⟩)]) (by simp) (by simp [go_sem]) ?_
    refine (caught12 br be _ _ 120 ne _ GX.out.rx.cell GX.out.rx.fz GX.out.ex.cell GX.out.ex.fz).mono ?_
    rintro e u' wz ⟨rfl,rfl,rfl⟩
    have cz:=(Box.other (GX.out.rx.set (.pointer none)) ⟨be,0,none⟩ (.int .i64 120) ne).cell
    have dz:=(Box.set (Box.other GX.out.ex ⟨br,0,none⟩ (.pointer none) (fun e=>ne e.symm)) (.int .i64 120)).cell
    exact ⟨.tuple #[.pointer none, .int .i64 120],by simp [results,Tryz.results9,go_sem,cz,dz], .inr ⟨NF.out,rfl⟩,(GX.out.gw.setCell (by show w.heap.size≤br;exact BB.out.1) _).setCell (by show w.heap.size≤be;exact BB.out.2) _⟩
   ·go_simp
    refine (KO.out _ (Gw.drew (Gw.refl w5))).mono ?_
    rintro e w6 ⟨⟨kb,rfl,hkb,ks6⟩,g6⟩
    have G6:Hid (Gw w5 w6):=(Gw.drew (Gw.refl w5)).trans g6
    have K6:Hid (KS w6 (some ⟨kb,0,none⟩) n (kF f)∧kb≠p):=⟨ks6,by have h9:w5.heap.size≤kb:=hkb;omega⟩
    have x6:=(G6.out.cell bi 0 l5).trans x5
    have l6:bi<w6.heap.size:=Nat.lt_of_lt_of_le l5 G6.out.size
    clear ks6 g6 hkb
    refine hK _ _ ?_
    clear hK K
    refine wpAny_ready (rs:=[0]) (by kernel_rfl) (by simp) ?_
    refine AllReady.cons rfl (fun K hK=>?_) AllReady.nil
    go_simp
    refine hK _ _ ?_
    clear hK K
    refine wpAny_ready (rs:=[3]) (by kernel_rfl) (by simp) ?_
    refine AllReady.cons rfl (fun K hK=>?_) AllReady.nil
    go_simp
    refine (LV.out _ _ G6.out K6.out.2 K6.out.1).mono ?_
    rintro e w7 ⟨rfl,u7⟩
    have GX:Hid (GB w br be (.pointer none) w7):=(X5.out.mono G6.out).upd u7 np3 np1 np2
    clear u7
    go_wp2_with fail
    refine leaves_cons (f:=31) (args:=#[.pointer (some ⟨br,0,none⟩), .pointer (some ⟨be,0,none⟩)]) (by simp) (by simp [go_sem]) ?_
    refine (caught12 br be _ _ 120 ne _ GX.out.rx.cell GX.out.rx.fz GX.out.ex.cell GX.out.ex.fz).mono ?_
    rintro e u' wz ⟨rfl,rfl,rfl⟩
    have cz:=(Box.other (GX.out.rx.set (.pointer none)) ⟨be,0,none⟩ (.int .i64 120) ne).cell
    have dz:=(Box.set (Box.other GX.out.ex ⟨br,0,none⟩ (.pointer none) (fun e=>ne e.symm)) (.int .i64 120)).cell
    exact ⟨.tuple #[.pointer none, .int .i64 120],by simp [results,Tryz.results9,go_sem,cz,dz], .inr ⟨NF.out,rfl⟩,(GX.out.gw.setCell (by show w.heap.size≤br;exact BB.out.1) _).setCell (by show w.heap.size≤be;exact BB.out.2) _⟩
end Go.Proofs.YtinefkljjnepjabGreat
namespace Go.Proofs.YtinefkljjnepjabGreat
open Go.RowKit
set_option linter.unusedVariables false
def lf (l:List Int) (i:Nat):Int:=l.getD i 0
theorem lies_lf {f:Nat→Int} {l:List Int} (h:Lies f 0 l):∀ i,i<l.length→f i=lf l i:=fun i hi=>by
 have:=h i hi
 rw [Nat.zero_add] at this
 unfold lf
 rw [List.getD_eq_getElem?_getD,this]
 rfl
theorem bl_bs {w:World} {base:Nat} {bo:Option Addr} {c:Nat} {l:List Int} (h:BL w base (.slice bo l.length c) l) (bd:∀ y∈l,0≤y∧y<256):BS w bo l.length (lf l):=by
 refine ⟨fun h0=>?_,fun i hi=>?_⟩
 ·rcases h.2 with ⟨e,z⟩ | ⟨g,cap,cur,e,hb,hh,r⟩
  ·omega
  ·have e':=e
   injection e' with e1 e2 e3
   subst e1
   refine ⟨g,0,rfl,(Array.getElem?_eq_some_iff.1 hh).1,fun i hi=>?_⟩
   rw [Nat.zero_add,World.ownsRow.cellAt h i (by omega)]
   unfold i8 lf
   rw [List.getElem?_map,List.getD_eq_getElem?_getD,List.getElem?_eq_getElem hi]
   rfl
 ·unfold lf
  rw [List.getD_eq_getElem?_getD,List.getElem?_eq_getElem hi]
  exact bd _ (List.getElem_mem hi)
theorem RunG.te {eps:Int} {k v:Nat→Int} {g:Nat→Bool} {n:Nat} {L:List (List Sg)} (h:RunG eps k v g n L):∀ l∈L,∀ s∈l,0≤s.te:=fun l hl s hs=>((h.wr.lw l hl).2 s hs).t0
theorem segE_congr {eps:Int} {f f':Nat→Int} {n:Nat} (e0:0≤eps) (e:∀ i,i<n→f i=f' i) {s:Sg} (te:s.te≤n) (h:segE eps f s=0):segE eps f' s=0:=by
 obtain ⟨a,b,c⟩:=segE_ok.1 h
 have A:=errM_ok.1 a
 refine segE_ok.2 ⟨a,by rw [b,e _ (by omega)],worst_le e0 _ fun i hi=>?_⟩
 have W:=(worst_in (away s.k s.sl s.ic s.fr s.te (sh f s.fr.toNat)) (s.te-s.fr).toNat).2 i hi
 have q:away s.k s.sl s.ic s.fr s.te (sh f' s.fr.toNat) i=away s.k s.sl s.ic s.fr s.te (sh f s.fr.toNat) i:=by
  unfold away sh
  rw [e (s.fr.toNat+i) (by omega)]
 rw [q]
 omega
theorem lvlE_congr {eps:Int} {f f':Nat→Int} {n:Nat} (e0:0≤eps) (e:∀ i,i<n→f i=f' i) {l:List Sg} (tl:tileB n 0 l=true) (h:lvlE eps f l=0):lvlE eps f' l=0:=by
 refine lvlE_ok.2 fun s hs=>?_
 obtain ⟨t,ht,e'⟩:=mem_getD (d:=sg0) hs
 have T:=tile_at tl t ht
 rw [e'] at T
 exact segE_congr e0 e T.2.2.1 (lvlE_ok.1 h s hs)
theorem chkE_congr {eps:Int} {f f':Nat→Int} {n:Nat} (e0:0≤eps) (e:∀ i,i<n→f i=f' i) {L:List (List Sg)} (h:chkE eps f n L=0):chkE eps f' n L=0:=by
 cases L with
 | nil=>rfl
 | cons l r =>
  unfold chkE at h ⊢
  by_cases t:(tileB n 0 l&&!l.isEmpty)=false
  ·rw [if_pos t] at h;omega
  ·rw [if_neg t] at h ⊢
   have t':tileB n 0 l=true:=by
    have:(tileB n 0 l&&!l.isEmpty)=true:=by simpa using t
    rw [Bool.and_eq_true] at this
    exact this.1
   by_cases z:lvlE eps f l=0
   ·rw [if_neg (fun q=>q z)] at h
    rw [if_neg (fun q=>q (lvlE_congr e0 e t' z))]
    exact h
   ·rw [if_pos z] at h
    exact absurd h z
theorem up_congr {f f':Nat→Int} {n:Nat} (e:∀ i,i<n→f i=f' i) (h:Up f n):Up f' n:=fun j hj=>by
 rw [←e j (by omega),←e (j+1) hj]
 exact h j hj
theorem OfE.congr0 {eps:Int} {k v k' v':Nat→Int} {g g':Nat→Bool} {n:Nat} {L:List (List Sg)} (h:OfE eps k v g n L 0) (e:∀ i,i<n→k i=k' i∧v i=v' i∧g i=g' i):OfE eps k' v' g' n L 0:=by
 obtain ⟨a,b⟩:=h.new0
 have up:=a.up
 have gn:=a.gone
 refine ⟨0, .inr ⟨up.1, .inl ⟨rfl,up_congr (fun i hi=>(e i hi).1) up.2,fun j hj=>?_⟩⟩, .inr ⟨rfl,?_⟩⟩
 ·rw [←(e j hj).2.1,←(e j hj).2.2]
  exact gn j hj
 ·rcases b with ⟨_,q⟩ | ⟨_,_,q⟩ | ⟨_,_,_,q⟩ | ⟨x1,x2,x3,q⟩
  ·cases q
  ·cases q
  ·cases q
  ·exact .inr (.inr (.inr ⟨x1,up_congr (fun i hi=>(e i hi).1) x2,x3,(chkE_congr (by omega) (fun i hi=>(e i hi).1) q.symm).symm⟩))
theorem RunG.bytes {eps:Int} {k v:Nat→Int} {g:Nat→Bool} {n:Nat} {L:List (List Sg)} (h:RunG eps k v g n L) {f:Nat→Int} (l:Lies f 0 (putB eps k v g n L)):Fit f (putB eps k v g n L).length∧numR f 4 8=eps∧nF f=n∧(∀ i,i<n→kF f i=k i∧vF f i=v i∧gF f i=g i)∧hF f=L.length∧LF f=L:=by
 obtain ⟨b1,b2,b3,b4,b5,b6,b7⟩:=back12 h.wr h.low l
 refine ⟨⟨h.fit l,?_⟩,b1,b2,fun i hi=>⟨(b3 i hi).1,(b3 i hi).2.1,(b3 i hi).2.2.1⟩,b4,b5⟩
 rw [b1,b2,b5]
 exact h.of.congr0 fun i hi=>⟨((b3 i hi).1).symm,((b3 i hi).2.1).symm,((b3 i hi).2.2.1).symm⟩
end Go.Proofs.YtinefkljjnepjabGreat
