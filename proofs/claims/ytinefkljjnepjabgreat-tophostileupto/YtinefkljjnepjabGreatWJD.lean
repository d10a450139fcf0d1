/- The document's layer 12: entries read. -/
import Derived.Maps.AppendAt
import Derived.Test.YtinefkljjnepjabGreatWPVo
import Derived.Test.YtinefkljjnepjabGreatWJG
import Derived.Test.YtinefkljjnepjabGreatWR1Of
namespace Go.Proofs.YtinefkljjnepjabGreat
open Go.RowKit
set_option linter.unusedVariables false
attribute [local go_sem] run_store_float
theorem OwnV.moreU {W w w':World} {o:Obj} {B:Nat} {v v' vl:Value} {L:List (List Sg)} {lv:List Sg} {vals:List Value} (h0:OwnV W B v L vals) (h:OwnV w B v L vals) (gs:W.heap.size≤w.heap.size) (hs:SR w W.heap.size vl lv) (hB:B≤W.heap.size) (r1:w'.ownsRow B 68 1 v' (L.length+1) (vals++[vl])) (r2:(w.alloc o).grownBy w' v.ownBlock) (r4:v'.ownBlock=v.ownBlock∨v'.ownBlock=some (w.heap.size+1)):OwnV w' B v' (L++[lv]) (vals++[vl]):=by
 have vn:=h0.len
 have keep:∀ q,q<w.heap.size→v.ownBlock≠some q→w'.heap[q]?=w.heap[q]?:=fun q hq hn=>(r2.block q (by simp;omega) (fun e=>hn e.symm)).trans (heap_alloc_old w o hq)
 have oldq:∀ i,i<L.length→∀ q,(vals.getD i nilS).ownBlock=some q→q<W.heap.size:=fun i hi q hq=>(sr_lt (h0.rows i hi) q hq).2
 have vq:∀ q,v.ownBlock=some q→q<W.heap.size:=fun q hq=>(h0.outer.lt q hq).2
 have lvq:∀ q,vl.ownBlock=some q→W.heap.size≤q∧q<w.heap.size:=fun q hq=>sr_lt hs q hq
 have gl:∀ i,i<L.length→(vals++[vl]).getD i nilS=vals.getD i nilS∧(L++[lv]).getD i []=L.getD i []:=fun i hi=>by
  constructor
  ·simp [List.getD,List.getElem?_append_left (show i<vals.length by omega)]
  ·simp [List.getD,List.getElem?_append_left hi]
 have gr:(vals++[vl]).getD L.length nilS=vl∧(L++[lv]).getD L.length []=lv:=by
  constructor
  ·rw [←vn];simp [List.getD]
  ·simp [List.getD]
 refine ⟨by rw [List.length_append];exact r1,fun i hi=>?_,fun i hi q hq=>?_⟩
 ·by_cases e:i<L.length
  ·rw [(gl i e).1,(gl i e).2]
   exact sr_keep (h.rows i e) fun q hq=>keep q (Nat.lt_of_lt_of_le (oldq i e q hq) gs) (fun hv=>(h0.apart i e q hq).1 hv)
  ·have ei:i=L.length:=by rw [List.length_append] at hi;simp at hi;omega
   subst ei
   rw [gr.1,gr.2]
   have:=sr_keep hs fun q hq=>keep q (lvq q hq).2 (fun hv=>by have:=vq q hv;have:=lvq q hq;omega)
   refine ⟨this.1,?_⟩
   rcases this.2 with q | ⟨b,cap,cur,e1,e2,e3⟩
   ·exact .inl q
   ·exact .inr ⟨b,cap,cur,e1,Nat.le_trans hB e2,e3⟩
 ·by_cases e:i<L.length
  ·rw [(gl i e).1] at hq
   have q1:=oldq i e q hq
   have ap:=h0.apart i e q hq
   refine ⟨fun hv=>?_,fun j hj hjq=>?_⟩
   ·rcases r4 with r | r
    ·exact ap.1 (by rw [←r];exact hv)
    ·rw [r] at hv;have:w.heap.size+1=q:=by simpa using hv
     have:=gs;omega
   ·by_cases e2:j<L.length
    ·rw [(gl j e2).1] at hjq;exact ap.2 j e2 hjq
    ·have ej:j=L.length:=by rw [List.length_append] at hj;simp at hj;omega
     subst ej
     rw [gr.1] at hjq
     have:=lvq q hjq;omega
  ·have ei:i=L.length:=by rw [List.length_append] at hi;simp at hi;omega
   subst ei
   rw [gr.1] at hq
   have q1:=lvq q hq
   refine ⟨fun hv=>?_,fun j hj hjq=>?_⟩
   ·rcases r4 with r | r
    ·rw [r] at hv;have:=vq q hv;omega
    ·rw [r] at hv;have:w.heap.size+1=q:=by simpa using hv
     omega
   ·by_cases e2:j<L.length
    ·rw [(gl j e2).1] at hjq;have:=oldq j e2 q hjq;omega
    ·rw [List.length_append] at hj;simp at hj;omega
def DRd (w:World) (p:Nat) (S:Nat→Prop) (f:Nat→Int) (m o:Nat):Prop:=RRd 140 w p S (fun i=>f (o+i)) (m-o)
def DStep (w w':World) (p:Nat) (S:Nat→Prop) (f:Nat→Int) (m o:Nat):Prop:=Upd p w w'∧∃ S',DRd w' p S' f m o∧∀ q,S' q→S q
theorem Rds.dstep {w w':World} {p:Nat} {S:Nat→Prop} {f:Nat→Int} {m o k:Nat} (h:Rds 140 p S (fun i=>f (o+i)) (m-o) k w w'):DStep w w' p S f m (o+k):=by
 obtain ⟨u,S',r,s⟩:=h
 refine ⟨u,S',?_,s⟩
 unfold DRd
 rw [show m-(o+k)=m-o-k by omega,show (fun i=>f (o+k+i))=fun i=>f (o+(k+i)) from funext fun i=>by rw [Nat.add_assoc]]
 exact r
theorem DStep.after {w w1 w2:World} {p:Nat} {S S1:Nat→Prop} {f:Nat→Int} {m o:Nat} (u:Upd p w w1) (s:∀ q,S1 q→S q) (h:DStep w1 w2 p S1 f m o):DStep w w2 p S f m o:=by
 obtain ⟨a,S',b,c⟩:=h
 exact ⟨u.trans a,S',b,fun q hq=>s q (c q hq)⟩
theorem DRd.gw {w w':World} {p:Nat} {S:Nat→Prop} {f:Nat→Int} {m o:Nat} (h:DRd w p S f m o) (g:Gw w w'):DRd w' p S f m o:=RRd.gw h g
theorem DStep.gw {w w' w2:World} {p:Nat} {S:Nat→Prop} {f:Nat→Int} {m o:Nat} (h:DStep w w' p S f m o) (g:Gw w' w2):DStep w w2 p S f m o:=by
 obtain ⟨u,S',r,s⟩:=h
 exact ⟨u.trans (.of_gw g),S',r.gw g,s⟩
theorem DStep.setN {w w':World} {p:Nat} {S:Nat→Prop} {f:Nat→Int} {m o b:Nat} (h:DStep w w' p S f m o) (hb:w.heap.size≤b) (nb:∀ q,S q→q<w.heap.size) (i:Nat) (v:Value):DStep w (w'.setCell ⟨b,i,none⟩ v) p S f m o:=by
 obtain ⟨u,S',r,s⟩:=h
 refine ⟨u.setN hb i v,S',RRd.blks r (by simp) fun q hq=>?_,s⟩
 have:=nb q (s q hq)
 exact Go.Deep.blk_setCell_other _ _ _ _ (by show q≠b;omega)
theorem Upd.grown {p:Nat} {w w' w2:World} {row:Option Nat} (h:Upd p w w') (g:w'.grownBy w2 row) (hr:∀ k,row=some k→w.heap.size≤k):Upd p w w2 :=
 ⟨Nat.le_trans h.size g.size,fun q hq hl=>(g.block q (Nat.lt_of_lt_of_le hl h.size) (fun e=>by have:=hr q e.symm;omega)).trans (h.blk q hq hl),fun w0 h0 gg=>(h.gw w0 h0 gg).grown g (fun k hk=>Nat.le_trans gg.size (hr k hk))⟩
theorem DStep.grown {w w' w2:World} {p:Nat} {S:Nat→Prop} {f:Nat→Int} {m o:Nat} {row:Option Nat} (h:DStep w w' p S f m o) (g:w'.grownBy w2 row) (hr:∀ k,row=some k→w.heap.size≤k) (nb:∀ q,S q→q<w.heap.size):DStep w w2 p S f m o:=by
 obtain ⟨u,S',r,s⟩:=h
 refine ⟨u.grown g hr,S',RRd.blks r g.size fun q hq=>?_,s⟩
 have:=nb q (s q hq)
 exact g.block q (RRd.lt r q hq) (fun e=>by have:=hr q e.symm;omega)
section
variable {w:World} {p:Nat} {S:Nat→Prop} {f:Nat→Int} {m o:Nat}
theorem dnum (hm:m≤140737488355000) (om:o≤m) (h:DRd w p S f m o) :
  Calls Tryz.prog 88 #[.pointer (some ⟨p,0,none⟩)] w fun e w'=>(o+8≤m∧e=.returned (.tuple #[.int .u64 (numR f o 8), .int .i64 0])∧DStep w w' p S f m (o+8))∨(¬ o+8≤m∧∃ er,e=.returned (.tuple #[.int .u64 0, .int .i64 er])∧er≠0∧DStep w w' p S f m o):=(docr.number (by omega) h).mono fun e w' hh=>by
 unfold numA at hh
 rw [num_sh] at hh
 by_cases c:o+8≤m
 ·rw [if_neg (by omega)] at hh
  exact .inl ⟨c,hh.1,hh.2.dstep⟩
 ·rw [if_pos (by omega)] at hh
  exact .inr ⟨c,100,hh.1,by decide,hh.2.dstep⟩
theorem dcnt (most:Int) (q0:0≤most) (q1:most<9223372036854775808) (hm:m≤140737488355000) (om:o≤m) (h:DRd w p S f m o) :
  Calls Tryz.prog 55 #[.pointer (some ⟨p,0,none⟩), .int .i64 most] w fun e w'=>((o+8≤m∧numR f o 8≤most)∧e=.returned (.tuple #[.int .i64 (numR f o 8), .int .i64 0])∧DStep w w' p S f m (o+8))∨(¬ (o+8≤m∧numR f o 8≤most)∧∃ er,e=.returned (.tuple #[.int .i64 0, .int .i64 er])∧er≠0∧DStep w w' p S f m o):=(docr.count most (by omega) q1 (by omega) h).mono fun e w' hh=>by
 unfold countA at hh
 rw [num_sh] at hh
 by_cases c:o+8≤m∧numR f o 8≤most
 ·rw [if_neg (by omega),if_neg (by omega)] at hh
  exact .inl ⟨c,hh.1,hh.2.dstep⟩
 ·by_cases c8:m-o<8
  ·rw [if_pos c8] at hh
   exact .inr ⟨c,100,hh.1,by decide,hh.2.dstep⟩
  ·rw [if_neg c8,if_pos (by omega)] at hh
   exact .inr ⟨c,101,hh.1,by decide,hh.2.dstep⟩
theorem dflt (hm:m≤140737488355000) (om:o≤m) (h:DRd w p S f m o) :
  Calls Tryz.prog 57 #[.pointer (some ⟨p,0,none⟩)] w fun e w'=>((o+8≤m∧numR f o 8/4503599627370496%2048≠2047)∧e=.returned (.tuple #[.float .f64 (numR f o 8).toNat, .int .i64 0])∧DStep w w' p S f m (o+8))∨(¬ (o+8≤m∧numR f o 8/4503599627370496%2048≠2047)∧∃ er,e=.returned (.tuple #[.float .f64 0, .int .i64 er])∧er≠0∧DStep w w' p S f m o):=(docr.float (by omega) h).mono fun e w' hh=>by
 unfold floatA at hh
 rw [num_sh] at hh
 by_cases c:o+8≤m∧numR f o 8/4503599627370496%2048≠2047
 ·rw [if_neg (by omega),if_neg (by omega)] at hh
  exact .inl ⟨c,hh.1,hh.2.dstep⟩
 ·by_cases c8:m-o<8
  ·rw [if_pos c8] at hh
   exact .inr ⟨c,100,hh.1,by decide,hh.2.dstep⟩
  ·rw [if_neg c8,if_pos (by omega)] at hh
   exact .inr ⟨c,101,hh.1,by decide,hh.2.dstep⟩
theorem dflt_any (hm:m≤140737488355000) (om:o≤m) (h:DRd w p S f m o) :
  Calls Tryz.prog 57 #[.pointer (some ⟨p,0,none⟩)] w fun e w'=>∃ x er o',e=.returned (.tuple #[.float .f64 x, .int .i64 er])∧DStep w w' p S f m o'∧o'≤m:=(dflt hm om h).mono fun e w' hh=>by
 rcases hh with ⟨a,b,c⟩ | ⟨a,er,b,_,c⟩
 ·exact ⟨_,_,_,b,c,a.1⟩
 ·exact ⟨_,_,_,b,c,om⟩
theorem dbyt (hm:m≤140737488355000) (om:o≤m) (h:DRd w p S f m o) :
  Calls Tryz.prog 89 #[.pointer (some ⟨p,0,none⟩), .int .u8 1] w fun e w'=>((o+1≤m∧f o≤1)∧e=.returned (.tuple #[.int .u8 (f o), .int .i64 0])∧DStep w w' p S f m (o+1))∨(¬ (o+1≤m∧f o≤1)∧∃ er,e=.returned (.tuple #[.int .u8 0, .int .i64 er])∧er≠0∧DStep w w' p S f m o):=(docr.byte 1 (by decide) (by decide) (by omega) h).mono fun e w' hh=>by
 unfold byteA at hh
 by_cases c:o+1≤m∧f o≤1
 ·rw [if_neg (by omega),if_neg (by show ¬ 1<f (o+0);rw [Nat.add_zero];omega)] at hh
  exact .inl ⟨c,hh.1,hh.2.dstep⟩
 ·by_cases c8:m-o=0
  ·rw [if_pos c8] at hh
   exact .inr ⟨c,100,hh.1,by decide,hh.2.dstep⟩
  ·rw [if_neg c8,if_pos (by show 1<f (o+0);rw [Nat.add_zero];omega)] at hh
   exact .inr ⟨c,101,hh.1,by decide,hh.2.dstep⟩
theorem dbyt_any (hm:m≤140737488355000) (om:o≤m) (h:DRd w p S f m o) :
  Calls Tryz.prog 89 #[.pointer (some ⟨p,0,none⟩), .int .u8 1] w fun e w'=>∃ x er o',e=.returned (.tuple #[.int .u8 x, .int .i64 er])∧DStep w w' p S f m o'∧o'≤m:=(dbyt hm om h).mono fun e w' hh=>by
 rcases hh with ⟨a,b,c⟩ | ⟨a,er,b,_,c⟩
 ·exact ⟨_,_,_,b,c,a.1⟩
 ·exact ⟨_,_,_,b,c,om⟩
end
theorem ecs_succ (k v:Nat→Int) (g:Nat→Bool) (i:Nat):ecs k v g (i+1)=ecs k v g i++[.int .u64 (k i), .int .u64 (v i), .bool (g i)]:=by
 unfold ecs
 rw [show (i+1)*3=i*3+1+1+1 by omega,List.range_succ,List.range_succ,List.range_succ]
 simp only [List.map_append,List.map_cons,List.map_nil,List.append_assoc,List.cons_append,List.nil_append]
 rw [ecell_0,ecell_1,ecell_2]
theorem new_ent (w:World) (x y:Int) (z:Bool):∀ j u,([.int .u64 x, .int .u64 y, .bool z]:List Value)[j]?=some u→(w.alloc (.cells #[.int .u64 x, .int .u64 y, .bool z] 39)).cell? ((⟨w.heap.size,0,none⟩:Addr).add j)=some u:=by
 intro j u hu
 have hb:=heap_alloc_new w (.cells #[.int .u64 x, .int .u64 y, .bool z] 39)
 rw [Addr.add_lit,Nat.zero_add]
 match j,hu with
 | 0,hu=>cases hu;exact (ent_cells hb).1
 | 1,hu=>cases hu;exact (ent_cells hb).2.1
 | 2,hu=>cases hu;exact (ent_cells hb).2.2
theorem er_upd {w w':World} {base p:Nat} {x:Value} {k v:Nat→Int} {g:Nat→Bool} {n:Nat} (h:ER w base x k v g n) (u:Upd p w w') (hp:p<base):ER w' base x k v g n:=own_kept h fun q hq=>u.blk q (by have:=(World.ownsRow.lt h q hq).1;omega) (World.ownsRow.lt h q hq).2
set_option maxRecDepth 10000 in
set_option maxHeartbeats 8000000 in
theorem dread {w:World} {p:Nat} {S:Nat→Prop} {f:Nat→Int} {m:Nat} (hm:m≤1000000000) (om:12≤m) (bd:∀ i,i<m→0≤f i∧f i<256) (h:DRd w p S f m 12) :
  Calls Tryz.prog 56 #[.pointer (some ⟨p,0,none⟩)] w fun e w'=>(EntOK f m∧∃ bo c,e=.returned (.tuple #[.slice bo (nF f) c, .bool true])∧ER w' w.heap.size (.slice bo (nF f) c) (kF f) (vF f) (gF f) (nF f)∧DStep w w' p S f m (eOff f (nF f)))∨(¬ EntOK f m∧e=.returned (.tuple #[.slice none 0 0, .bool false])∧Upd p w w'):=by
 have pl:p<w.heap.size:=RRd.lt h p (RRd.own h)
 have FZz:Hid (∀ q,S q→q<w.heap.size):=fun q hq=>RRd.lt h q hq
 have BDH:Hid (∀ i,i<m→0≤f i∧f i<256):=bd
 have C1:Hid _:=dcnt 4294967296 (by decide) (by decide) (by omega) om h
 obtain ⟨ii,hii,iz,is,iby⟩:=info_parts info_e
 clear h bd
 go_enter Tryz.func56,Tryz.ntmps56
 go_wp2_with fail
 refine Calls.mono C1.out ?_
 rintro e w2 hh
 clear C1
 rcases hh with ⟨a1,rfl,R⟩ | ⟨a1,er,rfl,e0,R⟩
 ·have A1:Hid (20≤m∧numR f 12 8≤4294967296):=a1
  have nc:numR f 12 8=(nF f:Int):=(cF_cast BDH.out (show 12+8≤m from a1.1)).symm
  rw [nc] at a1 ⊢
  obtain ⟨n,hn⟩:∃ n,nF f=n:=⟨_,rfl⟩
  have HN:Hid (nF f=n):=hn
  rw [hn] at a1 ⊢
  have n1:n≤4294967296:=by omega
  have ST0:Hid (DStep w w2 p S f m (eOff f 0)):=R
  have ER0:Hid (ER w2 w.heap.size (.slice none 0 0) (kF f) (vF f) (gF f) 0):=World.ownsRow_nil _ _ _ _
  clear R nc hn a1
  go_wp2_with fail
  go_loopg [6,7] n (fun gg s6 s7 wr=>∃ (i:Nat) (lo:Option Addr) (lc:Nat),s6=.slice lo i lc∧s7=.int .i64 i∧i≤n∧n-i≤gg∧Hid (ER wr w.heap.size (.slice lo i lc) (kF f) (vF f) (gF f) i)∧Hid (DStep w wr p S f m (eOff f i))∧Hid (eOff f i≤m)∧Hid (∀ t,t<i→eOff f t+9≤m∧f (eOff f t+8)≤1∧eOff f (t+1)≤m))
  case atStart=>exact ⟨0,none,0,rfl,rfl,Nat.zero_le _,by omega,ER0,ST0,(show Hid _ from A1.out.1),(show Hid _ from fun t ht=>by omega)⟩
  case round =>
   clear ER0 ST0
   obtain ⟨i,lo,lc,rfl,rfl,h1,h2,RI,SI,OI,EI⟩:=hrel
   by_cases hlt:i<n
   ·obtain ⟨u,Si,ri,subi⟩:=SI.out
    have UI:Hid (Upd p w wr):=u
    have SB:Hid (∀ q,Si q→S q):=subi
    have C2:Hid _:=dnum (show m≤140737488355000 by omega) OI.out ri
    have bnd:Hid (20+9*i≤m):=Nat.le_trans (eOff_ge f i) OI.out
    have ib:=bnd.out
    clear u ri subi
    go_wp2_with fail
    refine Calls.mono C2.out ?_
    rintro e w3 hh
    clear C2
    rcases hh with ⟨b1,rfl,R3⟩ | ⟨b1,er,rfl,e0,R3⟩
    ·obtain ⟨u3,S3,r3,sub3⟩:=R3
     have U3:Hid (Upd p wr w3):=u3
     have SB3:Hid (∀ q,S3 q→S q):=fun q hq=>SB.out q (sub3 q hq)
     have C3:Hid _:=dbyt (show m≤140737488355000 by omega) b1 r3
     clear u3 r3 sub3
     have kf:numR f (eOff f i) 8=kF f i:=rfl
     rw [kf]
     go_wp2_with fail
     refine Calls.mono C3.out ?_
     rintro e w4 hh
     clear C3
     rcases hh with ⟨c1,rfl,R4⟩ | ⟨c1,er,rfl,e0,R4⟩
     ·obtain ⟨u4,S4,r4,sub4⟩:=R4
      have U4:Hid (Upd p wr w4):=U3.out.trans u4
      have SB4:Hid (∀ q,S4 q→S q):=fun q hq=>SB3.out q (sub4 q hq)
      have R4:Hid (DRd w4 p S4 f m (eOff f i+8+1)):=r4
      have by0:=(BDH.out (eOff f i+8) (by omega)).1
      have EO:Hid (eOff f (i+1)=eOff f i+(if f (eOff f i+8)=1 then 9 else 17)∧gF f i=decide (f (eOff f i+8)=1)∧vF f i=if f (eOff f i+8)=1 then 0 else numR f (eOff f i+9) 8):=⟨rfl,rfl,rfl⟩
      have C9:Hid (eOff f i+9≤m∧f (eOff f i+8)≤1):=⟨by omega,c1.2⟩
      have p4:p<w4.heap.size:=by have:=U4.out.size;have:=UI.out.size;omega
      obtain ⟨y,hy⟩:∃ y,f (eOff f i+8)=y:=⟨_,rfl⟩
      have HY:Hid (f (eOff f i+8)=y):=hy
      rw [hy] at EO c1 by0 C9
      rw [hy]
      have ESU:Hid (∀ (W:World) (x y':Int) (z:Bool) (v':Value) (w7:World),Upd p w W→DStep w W p S f m (eOff f (i+1))→ER W w.heap.size (.slice lo i lc) (kF f) (vF f) (gF f) i→x=kF f i→y'=vF f i→z=gF f i→w7.ownsRow w.heap.size 39 3 v' (i+1) (ecs (kF f) (vF f) (gF f) i++[.int .u64 x, .int .u64 y', .bool z])→(W.alloc (.cells #[.int .u64 x, .int .u64 y', .bool z] 39)).grownBy w7 (Value.slice lo i lc).ownBlock→ER w7 w.heap.size v' (kF f) (vF f) (gF f) (i+1)∧DStep w w7 p S f m (eOff f (i+1))):=fun W x y' z v' w7 hu hs he e1 e2 e3 r1 r2=>by
       refine ⟨?_,?_⟩
       ·show World.ownsRow _ _ _ _ _ _ _
        rw [ecs_succ,←e1,←e2,←e3]
        exact r1
       ·exact (hs.gw ((Gw.refl W).alloc _ _)).grown r2 (fun k hk=>(World.ownsRow.lt he k hk).1) FZz.out
      clear u4 r4 sub4 hy kf
      by_cases y1:y=1
      ·subst y1
       rw [if_pos rfl,if_pos rfl] at EO
       obtain ⟨eo1,eo2,eo3⟩:=EO.out
       have g1:gF f i=true:=by rw [eo2];rfl
       have DS4:Hid (DStep w w4 p S f m (eOff f (i+1))):=by
        show DStep _ _ _ _ _ _ _
        rw [eo1]
        exact ⟨UI.out.trans U4.out,S4,R4.out,SB4.out⟩
       have ER4:Hid (ER w4 w.heap.size (.slice lo i lc) (kF f) (vF f) (gF f) i):=er_upd RI.out U4.out pl
       have ON:Hid (eOff f (i+1)≤m∧∀ t,t<i+1→eOff f t+9≤m∧f (eOff f t+8)≤1∧eOff f (t+1)≤m):=⟨by rw [eo1];omega,fun t ht=>by
        by_cases c:t=i
        ·subst c;exact ⟨C9.out.1,by rw [HY.out];decide,by rw [eo1];omega⟩
        ·exact EI.out t (by omega)⟩
       have KV:Hid (kF f i=kF f i∧vF f i=0∧gF f i=true):=⟨rfl,eo3,g1⟩
       obtain ⟨ki,hki⟩:∃ ki,kF f i=ki:=⟨_,rfl⟩
       have HKI:Hid (kF f i=ki):=hki
       rw [hki]
       have SZ:Hid (w.heap.size≤w4.heap.size):=Nat.le_trans UI.out.size U4.out.size
       clear EO eo1 eo2 eo3 g1 RI SI EI hki R4
       go_wp2_with (at_builtin;refine wpList_append_own _ rfl _ _ 22 rfl w.heap.size 39 ii (.agg #[.int .u64 0, .int .u64 0, .bool false]) 3 24 Tryz.underlying22 hii iz is iby rfl (by decide) _ i _ rfl (own_kept ER4.out fun q hq=>(((Gw.refl w4).alloc _ _).alloc _ _).below.block q (World.ownsRow.lt ER4.out q hq).2) ⟨w4.heap.size+1,0,none⟩ 1 1 [.int .u64 ki, .int .u64 0, .bool true] rfl rfl ?nw (by intro u hu;simp at hu;rcases hu with rfl | rfl | rfl<;>rfl) (by simp only [maxLen];omega) (by omega) (by have:=SZ.out;simp;omega) ?next)
       case nw =>
        have:=new_ent (w4.alloc (.cells #[.int .u64 ki, .int .u64 0, .bool true] 39)) ki 0 true
        rw [show (w4.alloc (.cells #[.int .u64 ki, .int .u64 0, .bool true] 39)).heap.size=w4.heap.size+1 by simp] at this
        exact this
       case next =>
        intro v7 w7 r1 r2 r3
        obtain ⟨ao7,c7,rfl⟩:∃ ao c,v7=.slice ao (i+1) c:=by
         rcases r1.2 with ⟨e,z⟩ | ⟨g,cap,cur,e,hb,hh,hc,_⟩
         ·exact ⟨none,0,by rw [e];congr 1;omega⟩
         ·exact ⟨some ⟨g,0,none⟩,cap,e⟩
        have FIN:=ESU.out (w4.alloc (.cells #[.int .u64 ki, .int .u64 0, .bool true] 39)) ki 0 true _ w7 ((UI.out.trans U4.out).allocN _ _) (DS4.out.gw ((Gw.refl w4).alloc _ _)) (own_kept ER4.out fun q hq=>((Gw.refl w4).alloc _ _).below.block q (World.ownsRow.lt ER4.out q hq).2) HKI.out.symm KV.out.2.1.symm KV.out.2.2.symm r1 r2
        have F1:Hid (ER w7 w.heap.size (.slice ao7 (i+1) c7) (kF f) (vF f) (gF f) (i+1)):=FIN.1
        have F2:Hid (DStep w w7 p S f m (eOff f (i+1))):=FIN.2
        clear FIN r1 r2 r3 ESU
        go_wp2_with fail
        go_roundg (n-(i+1))
        case measure=>omega
        case rel=>exact ⟨i+1,ao7,c7,rfl,by go_num,by omega,Nat.le_refl _,F1,F2,(show Hid _ from ON.out.1),(show Hid _ from ON.out.2)⟩
      ·have y2:y=0:=by have:=C9.out.2;omega
       subst y2
       rw [if_neg (by decide),if_neg (by decide)] at EO
       obtain ⟨eo1,eo2,eo3⟩:=EO.out
       have g1:gF f i=false:=by rw [eo2];rfl
       obtain ⟨ki,hki⟩:∃ ki,kF f i=ki:=⟨_,rfl⟩
       have HKI:Hid (kF f i=ki):=hki
       rw [hki]
       have SZ:Hid (w.heap.size≤w4.heap.size):=Nat.le_trans UI.out.size U4.out.size
       have C4:Hid _:=dnum (show m≤140737488355000 by omega) (show eOff f i+8+1≤m by omega) (R4.out.gw ((Gw.refl w4).alloc #[.int .u64 ki, .int .u64 0, .bool false] 39))
       have BX:(w4.alloc (.cells #[.int .u64 ki, .int .u64 0, .bool false] 39)).heap[w4.heap.size]?=some (.cells #[.int .u64 ki, .int .u64 0, .bool false] 39 (0,0)):=heap_alloc_new w4 _
       have BXH:Hid (∀ w6,Upd p (w4.alloc (.cells #[.int .u64 ki, .int .u64 0, .bool false] 39)) w6→w6.heap[w4.heap.size]?=some (.cells #[.int .u64 ki, .int .u64 0, .bool false] 39 (0,0))):=fun w6 u=>(u.blk _ (by omega) (by simp)).trans BX
       have KV:Hid (vF f i=numR f (eOff f i+9) 8∧gF f i=false∧eOff f (i+1)=eOff f i+17):=⟨eo3,g1,eo1⟩
       clear EO eo1 eo2 eo3 g1 SI hki R4 BX
       go_wp2_with fail
       refine Calls.mono C4.out ?_
       rintro e w6 hh
       clear C4
       rcases hh with ⟨d1,rfl,R6⟩ | ⟨d1,er,rfl,e0,R6⟩
       ·have B6:=BXH.out w6 R6.1
        obtain ⟨z0,z1,z2⟩:=ent_cells B6
        obtain ⟨f0,f1,f2⟩:=ent_fz B6
        have l6:w4.heap.size<w6.heap.size:=(Array.getElem?_eq_some_iff.1 B6).1
        have vv:numR f (eOff f i+8+1) 8=vF f i:=KV.out.1.symm
        rw [vv]
        have DS6:DStep w w6 p S f m (eOff f (i+1)):=by
         rw [KV.out.2.2]
         exact DStep.after ((UI.out.trans U4.out).allocN _ _) SB4.out R6
        have ER6:ER w6 w.heap.size (.slice lo i lc) (kF f) (vF f) (gF f) i:=er_upd (own_kept (er_upd RI.out U4.out pl) fun q hq=>((Gw.refl w4).alloc _ _).below.block q (World.ownsRow.lt (er_upd RI.out U4.out pl) q hq).2) R6.1 pl
        obtain ⟨vi,hvi⟩:∃ vi,vF f i=vi:=⟨_,rfl⟩
        have HVI:Hid (vF f i=vi):=hvi
        rw [hvi]
        obtain ⟨w8,hw8⟩:∃ w8,w8=w6.setCell ⟨w4.heap.size,1,none⟩ (.int .u64 vi):=⟨_,rfl⟩
        have nrow:∀ q,(Value.slice lo i lc).ownBlock=some q→q≠w4.heap.size:=fun q hq=>by
         have:=(World.ownsRow.lt (er_upd RI.out U4.out pl) q hq).2
         omega
        have ER8:Hid (ER w8 w.heap.size (.slice lo i lc) (kF f) (vF f) (gF f) i):=by
         rw [hw8]
         exact own_kept ER6 fun q hq=>Go.Deep.blk_setCell_other _ _ _ _ (nrow q hq)
        have DS8:Hid (DStep w w8 p S f m (eOff f (i+1))):=by
         rw [hw8]
         exact DS6.setN SZ.out FZz.out _ _
        have Z8:w8.cell? ⟨w4.heap.size,0,none⟩=some (.int .u64 ki)∧w8.cell? ⟨w4.heap.size,1,none⟩=some (.int .u64 vi)∧w8.cell? ⟨w4.heap.size,2,none⟩=some (.bool false):=by
         rw [hw8]
         refine ⟨?_,?_,?_⟩<;>simp [World.cell?,World.setCell,Array.getElem?_modify,B6]
        obtain ⟨zz0,zz1,zz2⟩:=Z8
        have SZ8:Hid (w.heap.size≤w8.heap.size∧w4.heap.size<w8.heap.size):=by
         show _∧_
         rw [hw8]
         have:=SZ.out
         simp
         omega
        have l8:=SZ8.out.2
        have ON:Hid (eOff f (i+1)≤m∧∀ t,t<i+1→eOff f t+9≤m∧f (eOff f t+8)≤1∧eOff f (t+1)≤m):=⟨by rw [KV.out.2.2];omega,fun t ht=>by
         by_cases c:t=i
         ·subst c;exact ⟨C9.out.1,by rw [HY.out];decide,by rw [KV.out.2.2];omega⟩
         ·exact EI.out t (by omega)⟩
        have NW:Hid (∀ j u,([.int .u64 ki, .int .u64 vi, .bool false]:List Value)[j]?=some u→(w8.alloc (.cells #[.int .u64 ki, .int .u64 vi, .bool false] 39)).cell? ((⟨w6.heap.size,0,none⟩:Addr).add j)=some u):=by
         have:=new_ent w8 ki vi false
         rw [show w8.heap.size=w6.heap.size by rw [hw8];simp] at this
         exact this
        have BS8:Hid (w.heap.size≤w6.heap.size+1):=by show _≤_;have:=SZ.out;omega
        clear RI EI DS6 ER6 vv hvi nrow B6 R6 BXH l8
        subst hw8
        go_wp2_with (at_builtin;refine wpList_append_own _ rfl _ _ 22 rfl w.heap.size 39 ii (.agg #[.int .u64 0, .int .u64 0, .bool false]) 3 24 Tryz.underlying22 hii iz is iby rfl (by decide) _ i _ rfl (own_kept ER8.out fun q hq=>((Gw.refl _).alloc _ _).below.block q (World.ownsRow.lt ER8.out q hq).2) ⟨w6.heap.size,0,none⟩ 1 1 [.int .u64 ki, .int .u64 vi, .bool false] rfl rfl NW.out (by intro u hu;simp at hu;rcases hu with rfl | rfl | rfl<;>rfl) (by simp only [maxLen];omega) (by omega) (by have:=BS8.out;simp;omega) ?next)
        case next =>
         intro v7 w7 r1 r2 r3
         obtain ⟨ao7,c7,rfl⟩:∃ ao c,v7=.slice ao (i+1) c:=by
          rcases r1.2 with ⟨e,z⟩ | ⟨g,cap,cur,e,hb,hh,hc,_⟩
          ·exact ⟨none,0,by rw [e];congr 1;omega⟩
          ·exact ⟨some ⟨g,0,none⟩,cap,e⟩
         have FIN:=ESU.out _ ki vi false _ w7 DS8.out.1 DS8.out ER8.out HKI.out.symm HVI.out.symm KV.out.2.1.symm r1 r2
         have F1:Hid (ER w7 w.heap.size (.slice ao7 (i+1) c7) (kF f) (vF f) (gF f) (i+1)):=FIN.1
         have F2:Hid (DStep w w7 p S f m (eOff f (i+1))):=FIN.2
         clear FIN r1 r2 r3 ESU
         go_wp2_with fail
         go_roundg (n-(i+1))
         case measure=>omega
         case rel=>exact ⟨i+1,ao7,c7,rfl,by go_num,by omega,Nat.le_refl _,F1,F2,(show Hid _ from ON.out.1),(show Hid _ from ON.out.2)⟩
       ·have t1:(er != 0)=true:=by simpa using e0
        have NO:Hid (¬ EntOK f m):=fun t=>by
         have:=(t.2 i (by rw [HN.out];exact hlt)).2.2
         rw [KV.out.2.2] at this
         omega
        have FIN:Hid (Upd p w w6):=((UI.out.trans U4.out).allocN _ _).trans R6.1
        clear R6 ESU
        go_wp2_with fail
        go_ret2
        exact .inr ⟨NO.out,rfl,FIN.out⟩
     ·have t1:(er != 0)=true:=by simpa using e0
      have NO:Hid (¬ EntOK f m):=fun t=>c1 (by
       have:=t.2 i (by rw [HN.out];exact hlt)
       exact ⟨by omega,this.2.1⟩)
      have FIN:Hid (Upd p w w4):=(UI.out.trans U3.out).trans R4.1
      clear R4 c1
      go_wp2_with fail
      go_ret2
      exact .inr ⟨NO.out,rfl,FIN.out⟩
    ·have t1:(er != 0)=true:=by simpa using e0
     have NO:Hid (¬ EntOK f m):=fun t=>b1 (by
      have:=t.2 i (by rw [HN.out];exact hlt)
      omega)
     have U3:Hid (Upd p w w3):=UI.out.trans R3.1
     obtain ⟨u3,S3,r3,sub3⟩:=R3
     have C3:Hid _:=dbyt_any (show m≤140737488355000 by omega) OI.out r3
     clear u3 r3 sub3 b1
     go_wp2_with fail
     refine Calls.mono C3.out ?_
     rintro e w4 ⟨x4,er4,o4,rfl,R4,_⟩
     have FIN:Hid (Upd p w w4):=U3.out.trans R4.1
     clear R4 C3
     go_wp2_with fail
     go_ret2
     exact .inr ⟨NO.out,rfl,FIN.out⟩
   ·have ei:i=n:=by omega
    subst ei
    have FIN:Hid (EntOK f m):=⟨A1.out,fun t ht=>EI.out t (by rw [HN.out] at ht;exact ht)⟩
    clear EI
    go_wp2_with fail
    go_ret2
    exact .inl ⟨FIN.out,lo,lc,by rw [HN.out];rfl,by rw [HN.out];exact RI.out,by rw [HN.out];exact SI.out⟩
 ·have t1:(er != 0)=true:=by simpa using e0
  have NO:Hid (¬ EntOK f m):=fun t=>a1 t.1
  have FIN:Hid (Upd p w w2):=R.1
  clear R a1
  go_wp2_with fail
  go_ret2
  exact .inr ⟨NO.out,rfl,FIN.out⟩
end Go.Proofs.YtinefkljjnepjabGreat
