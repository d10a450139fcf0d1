/- Package codec: the reader's lists. -/
import Derived.Test.YtinefkljjnepjabGreatWPMd
import Derived.Test.YtinefkljjnepjabGreatWPE3
import Derived.Test.YtinefkljjnepjabGreatWPXR
import Derived.Test.YtinefkljjnepjabGreatWJR
namespace Go.Proofs.YtinefkljjnepjabGreat
open Go.RowKit
set_option linter.unusedVariables false
attribute [local go_sem] run_store_float
theorem made_em (n:Nat) (hn:n≤4000000) (w:World) :
  (Instr.makeSlice 22 (.int .i64 (n:Int)) (.int .i64 (n:Int))).run Tryz.prog w=.ok (.slice (some ⟨w.heap.size,0,none⟩) n n) (w.alloc (.cells (madeCells #[.int .u64 0, .int .u64 0, .bool false] (n*3)) 39)):=by
 obtain ⟨i,hi,hz,hs,hb⟩:=info_parts info_e
 have hr:=run_make (P:=Tryz.prog) w 22 39 i _ Tryz.underlying22 hi hz .i64 .i64 (n:Int) (n:Int) (by omega) (Int.le_refl _) (by rw [hb];omega) (by omega)
 rw [hr,hs]
 have e1:(n:Int).toNat=n:=by omega
 rw [e1]
 rfl
theorem made_erow (w:World) (n:Nat):(w.alloc (.cells (madeCells #[.int .u64 0, .int .u64 0, .bool false] (n*3)) 39)).rowIs w.heap.size 39 (n*3) (ecell (fun _=>0) (fun _=>0) (fun _=>false)):=by
 have:=World.rowIs_alloc w (madeCells #[.int .u64 0, .int .u64 0, .bool false] (n*3)) 39 (ecell (fun _=>0) (fun _=>0) (fun _=>false)) (fun i hi=>by
  rw [size_madeCells] at hi
  have r3:i%3<3:=by omega
  simp only [madeCells]
  rw [Array.getElem?_map,Array.getElem?_range,if_pos hi]
  simp only [Option.map_some]
  show some (#[Value.int .u64 0, .int .u64 0, .bool false][i%3]!)=_
  unfold ecell
  generalize i%3=r at *
  match r,r3 with
  | 0,_=>rfl
  | 1,_=>rfl
  | 2,_=>rfl)
 rw [size_madeCells] at this
 exact this
def put3o (w:World) (b o:Nat) (x y:Int) (z:Bool):World:=((w.setCell ⟨b,o,none⟩ (.int .u64 x)).setCell ⟨b,o+1,none⟩ (.int .u64 y)).setCell ⟨b,o+2,none⟩ (.bool z)
def eT {α:Type} (d:α) (i:Nat) (h:Nat→α) (t:Nat):α:=if t<i then h t else d
theorem erow_put {w:World} {b n i:Nat} {k v:Nat→Int} {g:Nat→Bool} (h:w.rowIs b 39 (n*3) (ecell (eT 0 i k) (eT 0 i v) (eT false i g))) (hi:i<n):(put3o w b (i*3) (k i) (v i) (g i)).rowIs b 39 (n*3) (ecell (eT 0 (i+1) k) (eT 0 (i+1) v) (eT false (i+1) g)):=by
 refine (((h.set (i*3) (.int .u64 (k i))).set (i*3+1) (.int .u64 (v i))).set (i*3+2) (.bool (g i))).congr fun j hj=>?_
 have E:∀ {α:Type} (d:α) (h:Nat→α),eT d (i+1) h i=h i:=fun d h=>by unfold eT;rw [if_pos (by omega)]
 have N:∀ {α:Type} (d:α) (h:Nat→α) (t:Nat),t≠i→eT d (i+1) h t=eT d i h t:=fun d h t ht=>by
  unfold eT
  by_cases c:t<i
  ·rw [if_pos c,if_pos (by omega)]
  ·rw [if_neg c,if_neg (by omega)]
 by_cases e2:j=i*3+2
 ·subst e2;rw [if_pos rfl,ecell_2,E]
 ·rw [if_neg e2]
  by_cases e1:j=i*3+1
  ·subst e1;rw [if_pos rfl,ecell_1,E]
  ·rw [if_neg e1]
   by_cases e0:j=i*3
   ·subst e0;rw [if_pos rfl,ecell_0,E]
   ·rw [if_neg e0]
    have ne:j/3≠i:=by omega
    unfold ecell
    rw [N _ _ _ ne,N _ _ _ ne,N _ _ _ ne]
theorem RStep.setN {w w':World} {p:Nat} {S:Nat→Prop} {f:Nat→Int} {m o b:Nat} (h:RStep w w' p S f m o) (hb:w.heap.size≤b) (nb:∀ q,S q→q<w.heap.size) (i:Nat) (v:Value):RStep w (w'.setCell ⟨b,i,none⟩ v) p S f m o:=by
 obtain ⟨u,S',r,s⟩:=h
 refine ⟨u.setN hb i v,S',RRd.blks r (by simp) fun q hq=>?_,s⟩
 have:=nb q (s q hq)
 exact Go.Deep.blk_setCell_other _ _ _ _ (by show q≠b;omega)
theorem RStep.put3o {w w':World} {p:Nat} {S:Nat→Prop} {f:Nat→Int} {m o b:Nat} (h:RStep w w' p S f m o) (hb:w.heap.size≤b) (nb:∀ q,S q→q<w.heap.size) (i:Nat) (x y:Int) (z:Bool):RStep w (put3o w' b i x y z) p S f m o:=((h.setN hb nb _ _).setN hb nb _ _).setN hb nb _ _
theorem RStep.gw {w w' w2:World} {p:Nat} {S:Nat→Prop} {f:Nat→Int} {m o:Nat} (h:RStep w w' p S f m o) (g:Gw w' w2):RStep w w2 p S f m o:=by
 obtain ⟨u,S',r,s⟩:=h
 exact ⟨u.trans (.of_gw g),S',r.gw g,s⟩
structure Mod (f:Nat→Int) (m:Nat):Prop where
 n1:nF f≤(m-20)/9→nF f≤2000000
 h1:hF f≤(m-lO f)/8→hF f≤2000000
 c1:∀ l,l<hF f→cF f (lOff f (lO f) l)≤(m-(lOff f (lO f) l+8))/24→cF f (lOff f (lO f) l)≤2000000
theorem Mod.few {f:Nat→Int} {m:Nat} (h:m≤16000000):Mod f m:=⟨fun _=>by omega,fun _=>by omega,fun _ _ _=>by omega⟩
def EntOK (f:Nat→Int) (m:Nat):Prop:=(20≤m∧numR f 12 8≤4294967296)∧∀ i,i<nF f→eOff f i+9≤m∧f (eOff f i+8)≤1∧eOff f (i+1)≤m
theorem EntOK.room {f:Nat→Int} {m:Nat} (h:EntOK f m):nF f≤(m-20)/9:=by
 have a:=h.1.1
 have e:eOff f (nF f)≤m:=by
  cases hn:nF f with
  | zero=>exact a
  | succ i=>exact (h.2 i (by omega)).2.2
 have:=eOff_ge f (nF f)
 omega
theorem rows_kept {w w':World} {b n:Nat} {t:TypeId} {f:Nat→Value} (h:w.rowIs b t n f) (e:w'.heap[b]?=w.heap[b]?):w'.rowIs b t n f:=by
 obtain ⟨cur,h1,h2⟩:=h
 exact ⟨cur,e.trans h1,h2⟩
theorem kF_bd {f:Nat→Int} {m:Nat} (bd:∀ i,i<m→0≤f i∧f i<256) (h:EntOK f m):∀ i,i<nF f→(0≤kF f i∧kF f i<18446744073709551616)∧(0≤vF f i∧vF f i<18446744073709551616):=by
 intro i hi
 obtain ⟨h1,h2,h3⟩:=h.2 i hi
 have p8:(256:Int)^8=18446744073709551616:=rfl
 refine ⟨?_,?_⟩
 ·have:=numR_bd (f:=f) (o:=eOff f i) (k:=8) (fun j hj=>bd _ (by omega))
  rw [p8] at this
  exact this
 ·unfold vF
  by_cases c:f (eOff f i+8)=1
  ·rw [if_pos c];decide
  ·rw [if_neg c]
   have e:eOff f (i+1)=eOff f i+(if f (eOff f i+8)=1 then 9 else 17):=rfl
   rw [e,if_neg c] at h3
   have:=numR_bd (f:=f) (o:=eOff f i+9) (k:=8) (fun j hj=>bd _ (by omega))
   rw [p8] at this
   exact this
set_option maxHeartbeats 1000000 in
theorem jkeysof (ao:Option Addr) (n c:Nat) (k v:Nat→Int) (g:Nat→Bool) (hn:n*8≤281474976710656) (w:World) (h:ES w ao n k v g) :
  Calls Tryz.prog 38 #[.slice ao n c] w fun e w'=>(∃ b,e=.returned (.slice (some ⟨b,0,none⟩) n n)∧w.heap.size≤b∧w'.rowIs b 37 n (fun i=>.int .u64 (k i)))∧Gw w w':=by
 have hmk:=run_make_row' (P:=Tryz.prog) 44 37 (.int .u64 0) 8 Tryz.underlying44 info_k rfl .i64 .i64 n (by omega) (by omega)
 have hR:=World.rowIs_made w (.int .u64 0) n 37
 have hG:=(Gw.refl w).alloc (madeCells #[.int .u64 0] n) 37
 go_enter Tryz.func38,Tryz.ntmps38
 go_wp2_with fail
 generalize w.alloc (.cells (madeCells #[.int .u64 0] n) 37)=w0 at hR hG ⊢
 obtain ⟨b,hb⟩:∃ b,b=w.heap.size:=⟨_,rfl⟩
 rw [←hb] at hR ⊢
 have hbw:w.heap.size≤b:=by omega
 clear hb hmk
 have RR:Aside (w0.rowIs b 37 n (fun _=>.int .u64 0)):=hR
 have GG:Aside (Gw w w0):=hG
 clear hR hG
 go_loopg [11] n (fun gg s11 wr=>∃ i:Nat,s11=.int .i64 i∧i≤n∧n-i≤gg∧Aside (wr.rowIs b 37 n (fun j=>.int .u64 (if j<i then k j else 0)))∧Aside (Gw w wr))
 case atStart=>exact ⟨0,rfl,Nat.zero_le _,by omega,(show Aside _ from RR.out.congr fun j hj=>by simp),GG⟩
 case round =>
  obtain ⟨i,rfl,h1,h2,R,G⟩:=hrel
  by_cases hlt:i<n
  ·obtain ⟨b',off,rfl,hb',hc⟩:=(h.gw G.out).cells (by omega)
   obtain ⟨c1,c2,c3⟩:=hc i hlt
   have r1:=R.out.cell hlt
   have r2:=R.out.frozen i
   have r3:=R.out.lt
   clear hc h RR GG
   generalize hk1:k i=k1 at c1
   have Y:Aside (k i=k1):=hk1
   clear hk1
   generalize v i=v1 at c2
   generalize g i=g1 at c3
   go_wp2_with fail
   go_roundg (n-(i+1))
   case measure=>omega
   case rel =>
    refine ⟨i+1,by go_num,by omega,Nat.le_refl _,(show Aside _ from (((R.out.set i (.int .u64 k1)).alloc _).congr fun j hj=>?_)),(show Aside _ from ((G.out.setCell hbw _).alloc _ _))⟩
    by_cases e:j=i
    ·subst e;rw [if_pos rfl,if_pos (by omega),Y.out]
    ·rw [if_neg e]
     by_cases q:j<i
     ·rw [if_pos q,if_pos (by omega)]
     ·rw [if_neg q,if_neg (by omega)]
  ·obtain rfl:i=n:=by omega
   go_wp2_with fail
   go_ret
   exact ⟨⟨b,rfl,hbw,R.out.congr fun j hj=>by simp [hj]⟩,G.out⟩
set_option maxHeartbeats 1000000 in
theorem jfirsts (ao:Option Addr) (c:Nat) (l:List Sg) (hn:l.length≤4000000) (w:World) (h:GS w ao l) :
  Calls Tryz.prog 72 #[.slice ao l.length c] w fun e w'=>(∃ b,e=.returned (.slice (some ⟨b,0,none⟩) l.length l.length)∧w.heap.size≤b∧w'.rowIs b 37 l.length (fun i=>.int .u64 (fst8 l i)))∧Gw w w':=by
 have HG:Aside (GS w ao l):=h
 clear h
 obtain ⟨n,hln⟩:∃ n,l.length=n:=⟨_,rfl⟩
 have LN:Aside (l.length=n):=hln
 rw [hln] at hn
 rw [hln]
 clear hln
 have hmk:=run_make_row' (P:=Tryz.prog) 44 37 (.int .u64 0) 8 Tryz.underlying44 info_k rfl .i64 .i64 n (by omega) (by omega)
 have hR:=World.rowIs_made w (.int .u64 0) n 37
 have hG:=(Gw.refl w).alloc (madeCells #[.int .u64 0] n) 37
 go_enter Tryz.func72,Tryz.ntmps72
 go_wp2_with fail
 generalize w.alloc (.cells (madeCells #[.int .u64 0] n) 37)=w0 at hR hG ⊢
 obtain ⟨b,hb⟩:∃ b,b=w.heap.size:=⟨_,rfl⟩
 rw [←hb] at hR ⊢
 have hbw:w.heap.size≤b:=by omega
 clear hb hmk
 have RR:Aside (w0.rowIs b 37 n (fun _=>.int .u64 0)):=hR
 have GG:Aside (Gw w w0):=hG
 clear hR hG
 go_loopg [11] n (fun gg s11 wr=>∃ i:Nat,s11=.int .i64 i∧i≤n∧n-i≤gg∧Aside (wr.rowIs b 37 n (fun j=>.int .u64 (if j<i then fst8 l j else 0)))∧Aside (Gw w wr))
 case atStart=>exact ⟨0,rfl,Nat.zero_le _,by omega,(show Aside _ from RR.out.congr fun j hj=>by simp),GG⟩
 case round =>
  obtain ⟨i,rfl,h1,h2,R,G⟩:=hrel
  by_cases hlt:i<n
  ·obtain ⟨b',off,rfl,hb',hc⟩:=(HG.out.gw G.out).cells (by rw [LN.out];omega)
   have q:=hc i (by rw [LN.out];exact hlt)
   have Y:Aside (fst8 l i=(l.getD i sg0).k):=rfl
   generalize l.getD i sg0=s at q Y
   obtain ⟨sk,ssl,sic,sfr,ste⟩:=s
   have c0:wr.cell? ⟨b',off+i*5,none⟩=some (.int .u64 sk):=q.c0
   have c1:wr.cell? ⟨b',off+i*5+1,none⟩=some (.float .f64 ssl):=q.c1
   have c2:wr.cell? ⟨b',off+i*5+2,none⟩=some (.float .f64 sic):=q.c2
   have c3:wr.cell? ⟨b',off+i*5+3,none⟩=some (.int .i64 sfr):=q.c3
   have c4:wr.cell? ⟨b',off+i*5+4,none⟩=some (.int .i64 ste):=q.c4
   have Y1:Aside (fst8 l i=sk):=Y.out
   have r1:=R.out.cell hlt
   have r2:=R.out.frozen i
   have r3:=R.out.lt
   clear hc RR GG q Y
   go_wp2_with fail
   go_roundg (n-(i+1))
   case measure=>omega
   case rel =>
    refine ⟨i+1,by go_num,by omega,Nat.le_refl _,(show Aside _ from (((R.out.set i (.int .u64 sk)).alloc _).congr fun j hj=>?_)),(show Aside _ from ((G.out.setCell hbw _).alloc _ _))⟩
    by_cases e:j=i
    ·subst e;rw [if_pos rfl,if_pos (by omega),Y1.out]
    ·rw [if_neg e]
     by_cases q:j<i
     ·rw [if_pos q,if_pos (by omega)]
     ·rw [if_neg q,if_neg (by omega)]
  ·obtain rfl:i=n:=by omega
   go_wp2_with fail
   go_ret
   exact ⟨⟨b,rfl,hbw,R.out.congr fun j hj=>by simp [hj]⟩,G.out⟩
set_option maxRecDepth 10000 in
set_option maxHeartbeats 4000000 in
theorem jentries {w:World} {p:Nat} {S:Nat→Prop} {f:Nat→Int} {m:Nat} (hm:m≤140737488355000) (md:Mod f m) (om:12≤m) (bd:∀ i,i<m→0≤f i∧f i<256) (h:Rd w p S f m 12) :
  Calls Tryz.prog 36 #[.agg #[.pointer (some ⟨p,0,none⟩)]] w fun e w'=>(EntOK f m∧∃ b,e=.returned (.slice (some ⟨b,0,none⟩) (nF f) (nF f))∧w.heap.size≤b∧ES w' (some ⟨b,0,none⟩) (nF f) (kF f) (vF f) (gF f)∧RStep w w' p S f m (eOff f (nF f)))∨(¬ EntOK f m∧e=.panicked (thrown 120)∧Upd p w w'):=by
 have pl:=h.pl
 have FZz:Hid (∀ q,S q→q<w.heap.size):=fun q hq=>RRd.lt h q hq
 have UA:Hid (Upd p w (w.alloc (.cells #[.pointer (some ⟨p,0,none⟩)] 74))):=.of_gw ((Gw.refl w).alloc _ _)
 have IT:=jitems 9 (by omega) (by omega) hm om (h.gw ((Gw.refl w).alloc #[.pointer (some ⟨p,0,none⟩)] 74))
 have b0:(w.alloc (.cells #[.pointer (some ⟨p,0,none⟩)] 74)).heap[w.heap.size]?=some (.cells #[.pointer (some ⟨p,0,none⟩)] 74 (0,0)):=heap_alloc_new w _
 have C1:Hid (Calls Tryz.prog 69 #[.agg #[.pointer (some ⟨p,0,none⟩)], .int .i64 9] (w.alloc (.cells #[.pointer (some ⟨p,0,none⟩)] 74)) fun e w'=>(((20≤m∧numR f 12 8≤4294967296)∧nF f≤(m-20)/9)∧e=.returned (.int .i64 (nF f:Int))∧RStep w w' p S f m 20∧w'.heap[w.heap.size]?=some (.cells #[.pointer (some ⟨p,0,none⟩)] 74 (0,0)))∨(¬ EntOK f m∧e=.panicked (thrown 120)∧Upd p w w')):=IT.mono fun e w' hh=>by
  rcases hh with ⟨a,b,c⟩ | ⟨a,b,c⟩
  ·exact .inl ⟨a,b,RStep.after UA.out (fun _ h=>h) c,(c.1.blk _ (by omega) (by simp)).trans b0⟩
  ·exact .inr ⟨fun t=>a ⟨t.1,t.room⟩,b,UA.out.trans c⟩
 have MD:Hid (Mod f m):=md
 have BDH:Hid (∀ i,i<m→0≤f i∧f i<256):=bd
 clear h IT b0 UA md bd
 go_enter Tryz.func36,Tryz.ntmps36
 go_wp2_with fail
 refine C1.out.mono ?_
 rintro e w2 hh
 clear C1
 rcases hh with ⟨⟨a1,a2⟩,rfl,R,B2⟩ | ⟨a,rfl,R⟩
 ·have A1:Hid (20≤m∧numR f 12 8≤4294967296):=a1
  have n1:=MD.out.n1 a2
  obtain ⟨n,hn⟩:∃ n,nF f=n:=⟨_,rfl⟩
  have HN:Hid (nF f=n):=hn
  rw [hn] at n1 ⊢
  have hmk:=made_em n (by omega) w2
  have sz2:w.heap.size<w2.heap.size:=(Array.getElem?_eq_some_iff.1 B2).1
  have RR0:Hid ((w2.alloc (.cells (madeCells #[.int .u64 0, .int .u64 0, .bool false] (n*3)) 39)).rowIs w2.heap.size 39 (n*3) (ecell (eT 0 0 (kF f)) (eT 0 0 (vF f)) (eT false 0 (gF f)))):=made_erow w2 n
  have ST0:Hid (RStep w (w2.alloc (.cells (madeCells #[.int .u64 0, .int .u64 0, .bool false] (n*3)) 39)) p S f m (eOff f 0)):=R.gw ((Gw.refl w2).alloc _ _)
  have BX0:Hid ((w2.alloc (.cells (madeCells #[.int .u64 0, .int .u64 0, .bool false] (n*3)) 39)).heap[w.heap.size]?=some (.cells #[.pointer (some ⟨p,0,none⟩)] 74 (0,0))):=(((Gw.refl w2).alloc _ _).below.block _ sz2).trans B2
  obtain ⟨b,hb⟩:∃ b,b=w2.heap.size:=⟨_,rfl⟩
  have bw:w.heap.size<b:=by omega
  clear R B2 hn a1 a2
  go_wp2_with fail
  rw [←hb] at RR0 ⊢
  generalize w2.alloc (.cells (madeCells #[.int .u64 0, .int .u64 0, .bool false] (n*3)) 39)=w3 at RR0 ST0 BX0 ⊢
  clear hb hmk sz2
  go_loopg [10] n (fun gg s10 wr=>∃ i:Nat,s10=.int .i64 i∧i≤n∧n-i≤gg∧Hid (wr.rowIs b 39 (n*3) (ecell (eT 0 i (kF f)) (eT 0 i (vF f)) (eT false i (gF f))))∧Hid (RStep w wr p S f m (eOff f i))∧Hid (wr.heap[w.heap.size]?=some (.cells #[.pointer (some ⟨p,0,none⟩)] 74 (0,0)))∧Hid (eOff f i≤m)∧Hid (∀ t,t<i→eOff f t+9≤m∧f (eOff f t+8)≤1∧eOff f (t+1)≤m))
  case atStart=>exact ⟨0,rfl,Nat.zero_le _,by omega,RR0,ST0,BX0,(show Hid _ from A1.out.1),(show Hid _ from fun t ht=>by omega)⟩
  case round =>
   clear RR0 ST0 BX0
   obtain ⟨i,rfl,h1,h2,RI,SI,BI,OI,EI⟩:=hrel
   by_cases hlt:i<n
   ·obtain ⟨u,Si,ri,subi⟩:=SI.out
    obtain ⟨x0,_⟩:=rd_cell BI.out
    have xl:w.heap.size<wr.heap.size:=(Array.getElem?_eq_some_iff.1 BI.out).1
    have bl:=RI.out.lt
    have KE:Hid (∀ w5,Upd p wr w5→w5.heap[w.heap.size]?=some (.cells #[.pointer (some ⟨p,0,none⟩)] 74 (0,0))∧w5.rowIs b 39 (n*3) (ecell (eT 0 i (kF f)) (eT 0 i (vF f)) (eT false i (gF f)))):=fun w5 u5=>⟨(u5.blk _ (by omega) xl).trans BI.out,rows_kept RI.out (u5.blk _ (by omega) bl)⟩
    have CE:Hid (Calls Tryz.prog 70 #[.agg #[.pointer (some ⟨p,0,none⟩)]] wr fun e w'=>((eOff f i+9≤m∧f (eOff f i+8)≤1∧eOff f (i+1)≤m)∧e=.returned (.agg #[.int .u64 (kF f i), .int .u64 (vF f i), .bool (gF f i)])∧RStep w w' p S f m (eOff f (i+1))∧Upd p wr w')∨(¬ (eOff f i+9≤m∧f (eOff f i+8)≤1∧eOff f (i+1)≤m)∧e=.panicked (thrown 120)∧Upd p w w')):=(jentry hm OI.out ri).mono fun e w' hq=>by
     rcases hq with ⟨q1,q2,q3⟩ | ⟨q1,q2,q3⟩
     ·exact .inl ⟨q1,q2,RStep.after u subi q3,q3.1⟩
     ·exact .inr ⟨q1,q2,u.trans q3⟩
    clear u ri subi SI bl
    go_wp2_with fail
    refine CE.out.mono ?_
    rintro e w5 hq
    clear CE
    rcases hq with ⟨q1,rfl,q3,q4⟩ | ⟨q1,rfl,q3⟩
    ·obtain ⟨BX,RW⟩:=KE.out w5 q4
     have RN:Hid ((put3o w5 b (i*3) (kF f i) (vF f i) (gF f i)).rowIs b 39 (n*3) (ecell (eT 0 (i+1) (kF f)) (eT 0 (i+1) (vF f)) (eT false (i+1) (gF f)))):=erow_put RW hlt
     have SN:Hid (RStep w (put3o w5 b (i*3) (kF f i) (vF f i) (gF f i)) p S f m (eOff f (i+1))):=q3.put3o (by omega) FZz.out _ _ _ _
     have BN:Hid ((put3o w5 b (i*3) (kF f i) (vF f i) (gF f i)).heap[w.heap.size]?=some (.cells #[.pointer (some ⟨p,0,none⟩)] 74 (0,0))):=by
      show _=_
      unfold put3o
      rw [Go.Deep.blk_setCell_other _ _ _ _ (show w.heap.size≠b by omega),Go.Deep.blk_setCell_other _ _ _ _ (show w.heap.size≠b by omega),Go.Deep.blk_setCell_other _ _ _ _ (show w.heap.size≠b by omega)]
      exact BX
     have z0:=RW.cell (i:=i*3) (by omega)
     have z1:=RW.cell (i:=i*3+1) (by omega)
     have z2:=RW.cell (i:=i*3+2) (by omega)
     have f0:=RW.frozen (i*3)
     have f1:=RW.frozen (i*3+1)
     have f2:=RW.frozen (i*3+2)
     have bl:=RW.lt
     have EN:Hid (∀ t,t<i+1→eOff f t+9≤m∧f (eOff f t+8)≤1∧eOff f (t+1)≤m):=fun t ht=>by
      by_cases c:t=i
      ·subst c;exact q1
      ·exact EI.out t (by omega)
     have ON:Hid (eOff f (i+1)≤m):=q1.2.2
     generalize kF f i=ki at *
     generalize vF f i=vi at *
     generalize gF f i=gi at *
     unfold put3o at RN SN BN
     clear RW q1 q3 q4 BX x0 xl RI KE EI
     go_wp2_with fail
     go_roundg (n-(i+1))
     case measure=>omega
     case rel=>exact ⟨i+1,by go_num,by omega,Nat.le_refl _,RN,SN,BN,ON,EN⟩
    ·have FIN:Hid (Upd p w w5):=q3
     have NO:Hid (¬ EntOK f m):=fun t=>q1 (t.2 i (by rw [HN.out];exact hlt))
     clear q1 q3 KE
     go_wp2_with fail
     exact ⟨rfl, .inr ⟨NO.out,rfl,FIN.out⟩⟩
   ·have ei:i=n:=by omega
    subst ei
    have EO:EntOK f m:=⟨A1.out,fun t ht=>EI.out t (by rw [HN.out] at ht;exact ht)⟩
    have FIN:Hid (EntOK f m∧ES wr (some ⟨b,0,none⟩) i (kF f) (vF f) (gF f)):=⟨EO,es_of_row (RI.out.congr fun j hj=>ecell_congr (fun t ht=>by unfold eT;rw [if_pos ht,if_pos ht,if_pos ht];exact ⟨rfl,rfl,rfl⟩) j hj) (Nat.le_refl _) (fun t ht=>kF_bd BDH.out EO t (by rw [HN.out];exact ht))⟩
    clear RI EI EO
    go_wp2_with fail
    go_ret
    exact .inl ⟨FIN.out.1,b,by rw [HN.out];rfl,by omega,by rw [HN.out];exact FIN.out.2,by rw [HN.out];exact SI.out⟩
 ·have FIN:Hid (Upd p w w2):=R
  have NO:Hid (¬ EntOK f m):=a
  clear R a
  go_wp2_with fail
  exact ⟨rfl, .inr ⟨NO.out,rfl,FIN.out⟩⟩
end Go.Proofs.YtinefkljjnepjabGreat
