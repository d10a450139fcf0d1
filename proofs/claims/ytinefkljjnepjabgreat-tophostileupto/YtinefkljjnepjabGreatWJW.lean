/- Package codec: the writer. -/
import Derived.Deep.RegionLaw
import Derived.Maps.AppendAt
import Derived.Test.YtinefkljjnepjabGreatWPMd
import Derived.Test.YtinefkljjnepjabGreatWPVo
import Derived.Test.YtinefkljjnepjabGreatWR4Fit
import Derived.Test.YtinefkljjnepjabGreatWPOc
import Derived.Test.YtinefkljjnepjabGreatWPJp
namespace Go.Proofs.YtinefkljjnepjabGreat
open Go.RowKit
set_option linter.unusedVariables false
attribute [local go_sem] run_store_float
def i8 (l:List Int):List Value:=l.map (Value.int .u8)
theorem i8_len (l:List Int):(i8 l).length=l.length:=by simp [i8]
theorem i8_app (a b:List Int):i8 (a++b)=i8 a++i8 b:=by simp [i8]
theorem i8_one (l:List Int):∀ u∈i8 l,u.oneCell'=true:=by
 intro u hu
 obtain ⟨j,_,rfl⟩:=List.mem_map.1 hu
 rfl
def WrR (W:World) (p:Nat) (S:Nat→Prop) (l:List Int) (vo:Option Addr) (cap:Nat):Prop :=
 W.heap[p]?=some (.cells #[.slice vo l.length cap] 62 (0,0))∧W.ownsRow 0 5 1 (.slice vo l.length cap) l.length (i8 l)∧(∀ q,(Value.slice vo l.length cap).ownBlock=some q→q≠p)∧∀ q,S q↔q=p∨(Value.slice vo l.length cap).ownBlock=some q
def Wr (W:World) (p:Nat) (S:Nat→Prop) (l:List Int):Prop:=∃ vo cap,WrR W p S l vo cap
def WStep (W W':World) (p:Nat) (S:Nat→Prop) (l:List Int):Prop:=∃ S',Wr W' p S' l∧Gs S W W'∧∀ q,S' q→S q∨W.heap.size≤q
theorem Wr.lt {W:World} {p:Nat} {S:Nat→Prop} {l:List Int} (h:Wr W p S l):∀ q,S q→q<W.heap.size:=by
 obtain ⟨vo,cap,h1,h2,h3,h4⟩:=h
 intro q hq
 rcases (h4 q).1 hq with rfl | e
 ·exact (Array.getElem?_eq_some_iff.1 h1).1
 ·exact (World.ownsRow.lt h2 q e).2
theorem Wr.keep {W W':World} {p:Nat} {S:Nat→Prop} {l:List Int} (h:Wr W p S l) (k:∀ q,S q→W'.heap[q]?=W.heap[q]?):Wr W' p S l:=by
 obtain ⟨vo,cap,h1,h2,h3,h4⟩:=h
 exact ⟨vo,cap,(k p ((h4 p).2 (.inl rfl))).trans h1,own_kept h2 fun q hq=>k q ((h4 q).2 (.inr hq)),h3,h4⟩
theorem Wr.gw {W W':World} {p:Nat} {S:Nat→Prop} {l:List Int} (h:Wr W p S l) (g:Gw W W'):Wr W' p S l:=h.keep fun q hq=>g.below.block q (h.lt q hq)
theorem Wr.one {W:World} {p:Nat} {S S':Nat→Prop} {l:List Int} (h:Wr W p S l) (h':Wr W p S' l) (q:Nat):S q↔S' q:=by
 obtain ⟨vo,cap,h1,_,_,h4⟩:=h
 obtain ⟨vo',cap',h1',_,_,h4'⟩:=h'
 rw [h1] at h1'
 cases h1'
 rw [h4,h4']
theorem WStep.after {W W1 W2:World} {p:Nat} {S S1:Nat→Prop} {l:List Int} (g:Gs S W W1) (s:∀ q,S1 q→S q∨W.heap.size≤q) (h:WStep W1 W2 p S1 l):WStep W W2 p S l:=by
 obtain ⟨S',a,b,c⟩:=h
 refine ⟨S',a,⟨b.os.trans g.os,b.tape.trans g.tape,b.output.trans g.output,Nat.le_trans g.size b.size,fun q hq hs=>(b.block q (Nat.lt_of_lt_of_le hq g.size) (fun x=>?_)).trans (g.block q hq hs)⟩,fun q hq=>?_⟩
 ·rcases s q x with y | y
  ·exact hs y
  ·omega
 ·rcases c q hq with x | x
  ·exact s q x
  ·exact .inr (Nat.le_trans g.size x)
theorem WStep.none {W W':World} {p:Nat} {S:Nat→Prop} {l:List Int} (h:Wr W p S l) (g:Gw W W'):WStep W W' p S l:=⟨S,h.gw g,g.gs S,fun q hq=>.inl hq⟩
theorem Wr.put {W W1 W2:World} {p:Nat} {S:Nat→Prop} {l m:List Int} {vo:Option Addr} {cap:Nat} {v':Value} (h:WrR W p S l vo cap) (g1:Gw W W1)
  (r1:W2.ownsRow 0 5 1 v' (l.length+m.length) (i8 l++i8 m)) (r2:W1.grownBy W2 (Value.slice vo l.length cap).ownBlock) (r4:v'.ownBlock=(Value.slice vo l.length cap).ownBlock∨v'.ownBlock=some W1.heap.size) :
  WStep W (W2.setCell ⟨p,0,none⟩ v') p S (l++m):=by
 obtain ⟨h1,h2,h3,h4⟩:=h
 have pl:p<W.heap.size:=(Array.getElem?_eq_some_iff.1 h1).1
 have FM:∃ ao' c,v'=.slice ao' (l++m).length c:=by
  rw [List.length_append]
  rcases r1.2 with ⟨e,z⟩ | ⟨g,cap,cur,e,hb,hh,hc,_⟩
  ·exact ⟨none,0,by rw [e,z]⟩
  ·exact ⟨some ⟨g,0,none⟩,cap,e⟩
 obtain ⟨ao,c,rfl⟩:=FM
 have np:∀ q,(Value.slice ao (l++m).length c).ownBlock=some q→q≠p:=fun q hq=>by
  rcases r4 with e | e
  ·exact h3 q (e▸hq)
  ·rw [e] at hq
   cases hq
   have:=g1.size
   omega
 have b2:W2.heap[p]?=some (.cells #[.slice vo l.length cap] 62 (0,0)):=(r2.block p (Nat.lt_of_lt_of_le pl g1.size) (fun e=>h3 p e.symm rfl)).trans ((g1.below.block p pl).trans h1)
 refine ⟨fun q=>q=p∨(Value.slice ao (l++m).length c).ownBlock=some q,⟨ao,c,by simp [World.setCell,Array.getElem?_modify,b2],?_,np,fun q=>Iff.rfl⟩,?_,?_⟩
 ·have:=own_kept (w':=W2.setCell ⟨p,0,none⟩ (.slice ao (l++m).length c)) r1 fun q hq=>Go.Deep.blk_setCell_other _ _ _ _ (np q hq)
  rw [←i8_app,←List.length_append] at this
  exact this
 ·exact ((g1.gs S).grown r2 fun k hk=>(h4 k).2 (.inr hk)).set ((h4 p).2 (.inl rfl)) _ _
 ·rintro q (rfl | e)
  ·exact .inl ((h4 _).2 (.inl rfl))
  ·rcases r4 with x | x
   ·exact .inl ((h4 q).2 (.inr (x▸e)))
   ·rw [x] at e
    cases e
    exact .inr g1.size
theorem num8_row {w:World} {b:Nat} {x:Int} (h:w.rowIs b 5 (0+8) (fun i=>.int .u8 (cat (fun _=>0) 0 (fun i=>byt x (7-i)) i))):∀ j u,(i8 (num8 x))[j]?=some u→w.cell? ((⟨b,0,none⟩:Addr).add j)=some u:=by
 intro j u hu
 have hj:j<8:=by
  have:=(List.getElem?_eq_some_iff.1 hu).1
  rw [i8_len,num8_len] at this
  exact this
 rw [Addr.add_lit,Nat.zero_add,h.cell (by omega)]
 rw [←hu]
 unfold i8
 rw [List.getElem?_map,byt_nums x j hj]
 rfl
theorem own_form {w:World} {base e size n:Nat} {v:Value} {xs:List Value} (h:w.ownsRow base e size v n xs):∃ ao c,v=.slice ao n c:=by
 rcases h.2 with ⟨e,z⟩ | ⟨g,cap,cur,e,hb,hh,hc,_⟩
 ·exact ⟨none,0,by rw [e,z]⟩
 ·exact ⟨some ⟨g,0,none⟩,cap,e⟩
theorem own_u8 {w:World} {base n:Nat} {v:Value} {xs:List Value} (h:w.ownsRow base 5 1 v n xs):∀ q,v.ownBlock=some q→∃ c,w.heap[q]?=some (.cells c 5 (0,0)):=by
 intro q hq
 rcases h.2 with ⟨e,z⟩ | ⟨g,cap,cur,e,hb,hh,hc,_⟩
 ·rw [e] at hq;cases hq
 ·rw [e] at hq;cases hq;exact ⟨cur,hh⟩
theorem bs_nil (w:World) (ao:Option Addr) (f:Nat→Int):BS w ao 0 f:=⟨fun h=>by omega,fun i hi=>by omega⟩
theorem step_app12 {P:Program} (w:World) {ops:Array Oper} {o:Oper} {a:Act} {K:Act→World→Prop} {Q:Exit→Act→World→Prop} {E:Prop} (hgd:o.guard=none) (s x:Operand) (t:TypeId)
  (ho:o.op=.call { callee:=.builtin .append,args:=#[s,x],argTypes:=#[t,t] })
  (base:Nat) (e:TypeId) (i:TypeInfo) (z:Value) (size bytes:Nat) (ht:P.underlying t=some (.slice e)) (hi:P.info? e=some i) (hz:i.zero=some z)
  (hsize:i.size=size) (hby:i.bytes=bytes) (hzs:z.cells.size=size) (hsz:0<size)
  (v:Value) (n:Nat) (xs:List Value) (hs:a.eval s=v) (hown:w.ownsRow base e size v n xs)
  (ad:Addr) (m c:Nat) (news:List Value) (hx:a.eval x=.slice (some ad) m c) (hl:news.length=m*size) (hnews:∀ j u,news[j]?=some u→w.cell? (ad.add j)=some u) (h1:∀ u∈news,u.oneCell'=true)
  (h63:n+m≤maxLen) (hbytes:(n+m)*bytes≤140737488355328) (hbase:base≤w.heap.size)
  (h:∀ v' w',w'.ownsRow base e size v' (n+m) (xs++news)→w.grownBy w' v.ownBlock→(v'=.slice none 0 0↔v=.slice none 0 0∧m=0)→(v'.ownBlock=v.ownBlock∨v'.ownBlock=some w.heap.size)→K (a.put o.dst v') w') :
  if Region.wanted o (yielded ops a.tmps)=true then Oper.wp P o a w K Q else E:=by
 have hw:Region.wanted o (yielded ops a.tmps)=true:=by simp [Region.wanted,hgd]
 rw [if_pos hw]
 obtain ⟨v',w',hr,h2,h3,h4,h5⟩:=run_append_own_at (P:=P) w base t o.type e i z size bytes ht hi hz hsize hby hzs hsz v n xs hown ad m c news hl hnews h1 h63 hbytes hbase
 unfold Oper.wp execOp
 simp only [ho,resolve,invoke,builtin,Sem.run_bind,Sem.run_pure,Result.andThen_ok,List.map_toArray,List.map_cons,List.map_nil,hs,hx,hr]
 exact h v' w' h2 h3 h4 h5
set_option maxRecDepth 10000 in
set_option maxHeartbeats 2000000 in
theorem wnumber {W:World} {p:Nat} {S:Nat→Prop} {l:List Int} (h:Wr W p S l) (x:Int) (x0:0≤x) (x1:x<18446744073709551616) (hl:l.length≤140737488355000) :
  Calls Tryz.prog 64 #[.pointer (some ⟨p,0,none⟩), .int .u64 x] W fun e W'=>e=.returned (.tuple #[])∧WStep W W' p S (l++num8 x):=by
 obtain ⟨vo,cap,hR⟩:=h
 have HR:Hid (WrR W p S l vo cap):=hR
 obtain ⟨c0,f0⟩:=rd_cell hR.1
 have pl:p<W.heap.size:=(Array.getElem?_eq_some_iff.1 hR.1).1
 obtain ⟨ii,hii,iz,is,iby⟩:=info_parts info_b
 have PU:Hid (∀ W1,Calls Tryz.prog 101 #[.slice none 0 0, .int .u64 x] W1 fun e w'=>(∃ b,e=.returned (.slice (some ⟨b,0,none⟩) (0+8) (0+8))∧W1.heap.size≤b∧w'.rowIs b 5 (0+8) (fun i=>.int .u8 (cat (fun _=>0) 0 (fun i=>byt x (7-i)) i)))∧Gw W1 w'):=fun W1=>xput_any none 0 0 (fun _=>0) x x0 x1 (by omega) W1 (bs_nil _ _ _)
 obtain ⟨n,hn⟩:∃ n,l.length=n:=⟨_,rfl⟩
 have LN:Hid (l.length=n):=hn
 rw [hn] at c0 hl
 have KO:Hid (∀ w4,Gw W w4→w4.ownsRow 0 5 1 (.slice vo n cap) n (i8 l)):=fun w4 g4=>LN.out▸own_kept HR.out.2.1 (fun q hq=>g4.below.block q (World.ownsRow.lt HR.out.2.1 q hq).2)
 have FIN:Hid (∀ w4 v' w5,Gw W w4→w5.ownsRow 0 5 1 v' (n+8) (i8 l++i8 (num8 x))→w4.grownBy w5 (Value.slice vo n cap).ownBlock→(v'.ownBlock=(Value.slice vo n cap).ownBlock∨v'.ownBlock=some w4.heap.size)→(w5.cell? ⟨p,0,none⟩=some (.slice vo n cap)∧w5.frozen? ⟨p,0,none⟩=false)∧WStep W (w5.setCell ⟨p,0,none⟩ v') p S (l++num8 x)):=fun w4 v' w5 g4 r1 r2 r4=>by
  have H:=HR.out
  have e:=LN.out
  subst e
  exact ⟨rd_cell ((r2.block p (Nat.lt_of_lt_of_le pl g4.size) (fun e=>H.2.2.1 p e.symm rfl)).trans ((g4.below.block p pl).trans H.1)),Wr.put H g4 (by rw [num8_len];exact r1) r2 r4⟩
 clear hR hn
 go_enter Tryz.func64,Tryz.ntmps64
 go_wp2_with fail
 go_region_law (first
  | (go_simp;refine (PU.out _).mono ?_;rintro e w4 ⟨⟨b,rfl,hb,hR4⟩,g4⟩;have C4:=(g4.cell p 0 pl).trans c0;have NW:Hid (∀ j u,(i8 (num8 x))[j]?=some u→w4.cell? ((⟨b,0,none⟩:Addr).add j)=some u):=num8_row hR4;have G4:Hid (Gw W w4):=((Gw.refl W).drew).trans g4;have OW:Hid (w4.ownsRow 0 5 1 (.slice vo n cap) n (i8 l)):=KO.out w4 G4.out;clear g4 hR4 hb)
  | (refine step_app12 _ rfl (.tmp 8) (.tmp 10) 31 rfl 0 5 ii (.int .u8 0) 1 1 Tryz.underlying31 hii iz is iby rfl (by decide) (.slice vo n cap) n (i8 l) (by simp [Act.eval]) OW.out ⟨b,0,none⟩ 8 8 (i8 (num8 x)) (by simp [Act.eval]) (by rw [i8_len,num8_len]) NW.out (i8_one _) (by simp only [maxLen];omega) (by omega) (Nat.zero_le _) ?_;intro v' w5 r1 r2 r3 r4;obtain ⟨ao',c',rfl⟩:=own_form r1;obtain ⟨⟨C5,F5⟩,WS'⟩:=FIN.out w4 _ w5 G4.out r1 r2 r4;have WS:Hid (WStep W (w5.setCell ⟨p,0,none⟩ (.slice ao' (n+8) c')) p S (l++num8 x)):=WS';clear r1 r2 r3 r4 WS'))
 all_goals go_wp2_with fail
 all_goals go_end0
 all_goals exact ⟨rfl,WS.out⟩
set_option maxRecDepth 10000 in
set_option maxHeartbeats 2000000 in
theorem wfloat {W:World} {p:Nat} {S:Nat→Prop} {l:List Int} (h:Wr W p S l) (x:Nat) (x1:x<18446744073709551616) (hl:l.length≤140737488355000) :
  Calls Tryz.prog 66 #[.pointer (some ⟨p,0,none⟩), .float .f64 x] W fun e W'=>e=.returned (.tuple #[])∧WStep W W' p S (l++num8 (x:Int)):=by
 obtain ⟨vo,cap,hR⟩:=h
 have HR:Hid (WrR W p S l vo cap):=hR
 obtain ⟨c0,f0⟩:=rd_cell hR.1
 have pl:p<W.heap.size:=(Array.getElem?_eq_some_iff.1 hR.1).1
 obtain ⟨ii,hii,iz,is,iby⟩:=info_parts info_b
 have PU:Hid (∀ W1,Calls Tryz.prog 104 #[.slice none 0 0, .float .f64 x] W1 fun e w'=>(∃ b,e=.returned (.slice (some ⟨b,0,none⟩) (0+8) (0+8))∧W1.heap.size≤b∧w'.rowIs b 5 (0+8) (fun i=>.int .u8 (cat (fun _=>0) 0 (fun i=>byt (x:Int) (7-i)) i)))∧Gw W1 w'):=fun W1=>xputf_any none 0 0 (fun _=>0) x x1 (by omega) W1 (bs_nil _ _ _)
 obtain ⟨n,hn⟩:∃ n,l.length=n:=⟨_,rfl⟩
 have LN:Hid (l.length=n):=hn
 rw [hn] at c0 hl
 have KO:Hid (∀ w4,Gw W w4→w4.ownsRow 0 5 1 (.slice vo n cap) n (i8 l)):=fun w4 g4=>LN.out▸own_kept HR.out.2.1 (fun q hq=>g4.below.block q (World.ownsRow.lt HR.out.2.1 q hq).2)
 have FIN:Hid (∀ w4 v' w5,Gw W w4→w5.ownsRow 0 5 1 v' (n+8) (i8 l++i8 (num8 (x:Int)))→w4.grownBy w5 (Value.slice vo n cap).ownBlock→(v'.ownBlock=(Value.slice vo n cap).ownBlock∨v'.ownBlock=some w4.heap.size)→(w5.cell? ⟨p,0,none⟩=some (.slice vo n cap)∧w5.frozen? ⟨p,0,none⟩=false)∧WStep W (w5.setCell ⟨p,0,none⟩ v') p S (l++num8 (x:Int))):=fun w4 v' w5 g4 r1 r2 r4=>by
  have H:=HR.out
  have e:=LN.out
  subst e
  exact ⟨rd_cell ((r2.block p (Nat.lt_of_lt_of_le pl g4.size) (fun e=>H.2.2.1 p e.symm rfl)).trans ((g4.below.block p pl).trans H.1)),Wr.put H g4 (by rw [num8_len];exact r1) r2 r4⟩
 clear hR hn
 go_enter Tryz.func66,Tryz.ntmps66
 go_wp2_with fail
 go_region_law (first
  | (go_simp;refine (PU.out _).mono ?_;rintro e w4 ⟨⟨b,rfl,hb,hR4⟩,g4⟩;have C4:=(g4.cell p 0 pl).trans c0;have NW:Hid (∀ j u,(i8 (num8 (x:Int)))[j]?=some u→w4.cell? ((⟨b,0,none⟩:Addr).add j)=some u):=num8_row hR4;have G4:Hid (Gw W w4):=((Gw.refl W).drew).trans g4;have OW:Hid (w4.ownsRow 0 5 1 (.slice vo n cap) n (i8 l)):=KO.out w4 G4.out;clear g4 hR4 hb)
  | (refine step_app12 _ rfl (.tmp 8) (.tmp 10) 31 rfl 0 5 ii (.int .u8 0) 1 1 Tryz.underlying31 hii iz is iby rfl (by decide) (.slice vo n cap) n (i8 l) (by simp [Act.eval]) OW.out ⟨b,0,none⟩ 8 8 (i8 (num8 (x:Int))) (by simp [Act.eval]) (by rw [i8_len,num8_len]) NW.out (i8_one _) (by simp only [maxLen];omega) (by omega) (Nat.zero_le _) ?_;intro v' w5 r1 r2 r3 r4;obtain ⟨ao',c',rfl⟩:=own_form r1;obtain ⟨⟨C5,F5⟩,WS'⟩:=FIN.out w4 _ w5 G4.out r1 r2 r4;have WS:Hid (WStep W (w5.setCell ⟨p,0,none⟩ (.slice ao' (n+8) c')) p S (l++num8 (x:Int))):=WS';clear r1 r2 r3 r4 WS'))
 all_goals go_wp2_with fail
 all_goals go_end0
 all_goals exact ⟨rfl,WS.out⟩
set_option maxRecDepth 10000 in
set_option maxHeartbeats 2000000 in
theorem wcount {W:World} {p:Nat} {S:Nat→Prop} {l:List Int} (h:Wr W p S l) (x:Int) (x0:0≤x) (x1:x<9223372036854775808) (hl:l.length≤140737488355000) :
  Calls Tryz.prog 25 #[.pointer (some ⟨p,0,none⟩), .int .i64 x] W fun e W'=>e=.returned (.tuple #[])∧WStep W W' p S (l++num8 x):=by
 have NU:Hid (Calls Tryz.prog 64 #[.pointer (some ⟨p,0,none⟩), .int .u64 x] W fun e W'=>e=.returned (.tuple #[])∧WStep W W' p S (l++num8 x)):=wnumber h x x0 (by omega) hl
 clear h hl
 go_enter Tryz.func25,Tryz.ntmps25
 go_wp2_with fail
 refine NU.out.mono ?_
 rintro e w2 ⟨rfl,R⟩
 have RR:Hid (WStep W w2 p S (l++num8 x)):=R
 clear R NU
 go_wp2_with fail
 go_end0
 exact ⟨rfl,RR.out⟩
set_option maxRecDepth 10000 in
set_option maxHeartbeats 2000000 in
theorem wentry {W:World} {p:Nat} {S:Nat→Prop} {l:List Int} (h:Wr W p S l) (k v:Int) (g:Bool) (k0:0≤k) (k1:k<18446744073709551616) (v0:0≤v) (v1:v<18446744073709551616) (hl:l.length≤140737488354000) :
  Calls Tryz.prog 27 #[.pointer (some ⟨p,0,none⟩), .agg #[.int .u64 k, .int .u64 v, .bool g]] W fun e W'=>e=.returned (.tuple #[])∧WStep W W' p S (l++entB k v g):=by
 have lt:=h.lt
 have h1:=h.gw ((Gw.refl W).alloc #[.int .u64 k, .int .u64 v, .bool g] 39)
 have NU:Hid (Calls Tryz.prog 64 #[.pointer (some ⟨p,0,none⟩), .int .u64 k] (W.alloc (.cells #[.int .u64 k, .int .u64 v, .bool g] 39)) fun e W'=>e=.returned (.tuple #[])∧WStep W W' p S (l++num8 k)∧W'.heap[W.heap.size]?=some (.cells #[.int .u64 k, .int .u64 v, .bool g] 39 (0,0))):=(wnumber h1 k k0 k1 (by omega)).mono fun e w' ⟨a,S',b,c,d⟩=>⟨a, .after (((Gw.refl W).alloc _ _).gs S) (fun q hq=>.inl hq) ⟨S',b,c,d⟩,(c.block W.heap.size (by simp) (fun x=>by have:=lt _ x;omega)).trans (heap_alloc_new W _)⟩
 obtain ⟨ii,hii,iz,is,iby⟩:=info_parts info_b
 have HL:Hid (l.length≤140737488354000):=hl
 clear h h1 lt hl
 go_enter Tryz.func27,Tryz.ntmps27
 go_wp2_with fail
 refine NU.out.mono ?_
 rintro e w2 ⟨rfl,R,BX⟩
 have RR:Hid (WStep W w2 p S (l++num8 k)):=R
 obtain ⟨S2,⟨vo,cap,hR⟩,G2,sub⟩:=R
 have HR:Hid (WrR w2 p S2 (l++num8 k) vo cap):=hR
 obtain ⟨c0,f0⟩:=rd_cell hR.1
 have pl:p<w2.heap.size:=(Array.getElem?_eq_some_iff.1 hR.1).1
 have e0:w2.cell? ⟨W.heap.size,1,none⟩=some (.int .u64 v):=by simp [World.cell?,BX]
 have e1:w2.cell? ⟨W.heap.size,2,none⟩=some (.bool g):=by simp [World.cell?,BX]
 have wl:W.heap.size<w2.heap.size:=(Array.getElem?_eq_some_iff.1 BX).1
 have GS2:Hid (Gs S W w2∧∀ q,S2 q→S q∨W.heap.size≤q):=⟨G2,sub⟩
 have WB:Hid (¬ S2 W.heap.size):=fun x=>by
  rcases (hR.2.2.2 _).1 x with y | y
  ·subst y
   rw [hR.1] at BX
   cases BX
  ·have:=own_u8 hR.2.1 _ y
   obtain ⟨cc,hcc⟩:=this
   rw [hcc] at BX
   cases BX
 obtain ⟨n,hn⟩:∃ n,(l++num8 k).length=n:=⟨_,rfl⟩
 have LN:Hid ((l++num8 k).length=n):=hn
 have hl:n≤140737488354008:=by have:=HL.out;rw [←hn,List.length_append,num8_len];omega
 rw [hn] at c0
 have KO:Hid (∀ w4,Gw w2 w4→w4.ownsRow 0 5 1 (.slice vo n cap) n (i8 (l++num8 k))):=fun w4 g4=>LN.out▸own_kept HR.out.2.1 (fun q hq=>g4.below.block q (World.ownsRow.lt HR.out.2.1 q hq).2)
 have FIN:Hid (∀ y w4 v' w5,Gw w2 w4→w5.ownsRow 0 5 1 v' (n+1) (i8 (l++num8 k)++i8 [y])→w4.grownBy w5 (Value.slice vo n cap).ownBlock→(v'.ownBlock=(Value.slice vo n cap).ownBlock∨v'.ownBlock=some w4.heap.size)→(w5.cell? ⟨p,0,none⟩=some (.slice vo n cap)∧w5.frozen? ⟨p,0,none⟩=false)∧WStep w2 (w5.setCell ⟨p,0,none⟩ v') p S2 (l++num8 k++[y])):=fun y w4 v' w5 g4 r1 r2 r4=>by
  have H:=HR.out
  have e:=LN.out
  subst e
  exact ⟨rd_cell ((r2.block p (Nat.lt_of_lt_of_le pl g4.size) (fun e=>H.2.2.1 p e.symm rfl)).trans ((g4.below.block p pl).trans H.1)),Wr.put H g4 r1 r2 r4⟩
 clear NU hR hn G2 sub RR BX
 cases g with
 | true =>
  go_wp2_with (at_builtin;refine wpList_append_own_at _ rfl _ _ 31 rfl 0 5 ii (.int .u8 0) 1 1 Tryz.underlying31 hii iz is iby rfl (by decide) _ n _ rfl (KO.out _ ((Gw.refl w2).alloc _ _)) ⟨w2.heap.size,0,none⟩ 1 1 (i8 [1]) rfl rfl (cell_one_new w2 _ _) (i8_one _) (by simp only [maxLen];omega) (by omega) (Nat.zero_le _) ?_)
  intro v' w5 r1 r2 r3 r4
  obtain ⟨ao',c',rfl⟩:=own_form r1
  obtain ⟨⟨C5,F5⟩,WS'⟩:=FIN.out 1 _ _ w5 ((Gw.refl w2).alloc _ _) r1 r2 (by simpa using r4)
  have WS:Hid (WStep w2 (w5.setCell ⟨p,0,none⟩ (.slice ao' (n+1) c')) p S2 (l++num8 k++[1])):=WS'
  clear r1 r2 r3 r4 WS'
  go_wp2_with fail
  refine bodyPost_ret (v:=.tuple #[]) (by simp [results,Tryz.results27,go_sem]) rfl ⟨rfl,?_⟩
  have:=WStep.after GS2.out.1 GS2.out.2 WS.out
  rw [List.append_assoc] at this
  exact this
 | false =>
  go_wp2_with (at_builtin;refine wpList_append_own_at _ rfl _ _ 31 rfl 0 5 ii (.int .u8 0) 1 1 Tryz.underlying31 hii iz is iby rfl (by decide) _ n _ rfl (KO.out _ ((Gw.refl w2).alloc _ _)) ⟨w2.heap.size,0,none⟩ 1 1 (i8 [0]) rfl rfl (cell_one_new w2 _ _) (i8_one _) (by simp only [maxLen];omega) (by omega) (Nat.zero_le _) ?_)
  intro v' w5 r1 r2 r3 r4
  obtain ⟨ao',c',rfl⟩:=own_form r1
  obtain ⟨⟨C5,F5⟩,WS'⟩:=FIN.out 0 _ _ w5 ((Gw.refl w2).alloc _ _) r1 r2 (by simpa using r4)
  have WS:Hid (WStep w2 (w5.setCell ⟨p,0,none⟩ (.slice ao' (n+1) c')) p S2 (l++num8 k++[0])):=WS'
  have e2:(w5.setCell ⟨p,0,none⟩ (.slice ao' (n+1) c')).cell? ⟨W.heap.size,1,none⟩=some (.int .u64 v):=by
   obtain ⟨S3,_,G3,_⟩:=WS'
   exact (World.cell?_of_block (a:=⟨W.heap.size,1,none⟩) (G3.block _ wl WB.out)).trans e0
  have NV:Hid (Calls Tryz.prog 64 #[.pointer (some ⟨p,0,none⟩), .int .u64 v] (w5.setCell ⟨p,0,none⟩ (.slice ao' (n+1) c')) fun e W'=>e=.returned (.tuple #[])∧WStep W W' p S (l++entB k v false)):=by
   obtain ⟨S3,h3,G3,sub3⟩:=WS'
   refine (wnumber h3 v v0 v1 (by rw [List.length_append,LN.out];simp;omega)).mono fun e w' ⟨a,b⟩=>⟨a,?_⟩
   have:=WStep.after GS2.out.1 GS2.out.2 (WStep.after G3 sub3 b)
   rw [List.append_assoc,List.append_assoc] at this
   exact this
  clear r1 r2 r3 r4 WS' e0
  go_wp2_with fail
  refine NV.out.mono ?_
  rintro e w6 ⟨rfl,R⟩
  have RR:Hid (WStep W w6 p S (l++entB k v false)):=R
  clear R NV
  go_wp2_with fail
  go_end0
  exact ⟨rfl,RR.out⟩
def SegSt (W:World) (p:Nat) (S:Nat→Prop) (l:List Int) (b:Nat) (s:Sg) (w:World) (m:List Int):Prop:=∃ S',Wr w p S' (l++m)∧Gs S W w∧(∀ q,S' q→S q∨W.heap.size≤q)∧w.heap[b]?=some (.cells #[.int .u64 s.k, .float .f64 s.sl, .float .f64 s.ic, .int .i64 s.fr, .int .i64 s.te] 100 (0,0))∧¬ S' b
section
variable {W:World} {p:Nat} {S:Nat→Prop} {l m:List Int} {b:Nat} {s:Sg} {w:World}
theorem SegSt.lt (h:SegSt W p S l b s w m):b<w.heap.size:=by
 obtain ⟨S',_,_,_,e,_⟩:=h
 exact (Array.getElem?_eq_some_iff.1 e).1
theorem SegSt.cells (h:SegSt W p S l b s w m):w.cell? ⟨b,0,none⟩=some (.int .u64 s.k)∧w.cell? ⟨b,1,none⟩=some (.float .f64 s.sl)∧w.cell? ⟨b,2,none⟩=some (.float .f64 s.ic)∧w.cell? ⟨b,4,none⟩=some (.int .i64 s.te):=by
 obtain ⟨S',_,_,_,e,_⟩:=h
 refine ⟨?_,?_,?_,?_⟩<;>simp [World.cell?,e]
theorem SegSt.step (h:SegSt W p S l b s w m) {w':World} {x:List Int} (hs:∀ S',Wr w p S' (l++m)→¬ S' b→WStep w w' p S' (l++m++x)):SegSt W p S l b s w' (m++x):=by
 have bl:=h.lt
 obtain ⟨S',a,g,c,e,n⟩:=h
 obtain ⟨S2,a2,g2,c2⟩:=hs S' a n
 have:=WStep.after g c ⟨S2,a2,g2,c2⟩
 refine ⟨S2,by rw [←List.append_assoc];exact a2,?_,fun q hq=>?_,(g2.block b bl n).trans e,fun x=>?_⟩
 ·exact ⟨g2.os.trans g.os,g2.tape.trans g.tape,g2.output.trans g.output,Nat.le_trans g.size g2.size,fun q hq hs=>(g2.block q (Nat.lt_of_lt_of_le hq g.size) (fun x=>by
   rcases c q x with y | y
   ·exact hs y
   ·omega)).trans (g.block q hq hs)⟩
 ·rcases c2 q hq with x | x
  ·exact c q x
  ·exact .inr (Nat.le_trans g.size x)
 ·rcases c2 b x with y | y
  ·exact n y
  ·omega
theorem SegSt.count (h:SegSt W p S l b s w m) (x:Int) (x0:0≤x) (x1:x<9223372036854775808) (hl:(l++m).length≤140737488355000) :
  Calls Tryz.prog 25 #[.pointer (some ⟨p,0,none⟩), .int .i64 x] w fun e w'=>e=.returned (.tuple #[])∧SegSt W p S l b s w' (m++num8 x):=by
 have hh:=h
 obtain ⟨S',a,g,c,e,n⟩:=h
 refine (wcount a x x0 x1 hl).mono fun e w' ⟨r,t⟩=>⟨r,hh.step fun S2 a2 n2=>?_⟩
 have:S2=S':=funext fun q=>propext (a2.one a q)
 subst this
 exact t
theorem SegSt.float (h:SegSt W p S l b s w m) (x:Nat) (x1:x<18446744073709551616) (hl:(l++m).length≤140737488355000) :
  Calls Tryz.prog 66 #[.pointer (some ⟨p,0,none⟩), .float .f64 x] w fun e w'=>e=.returned (.tuple #[])∧SegSt W p S l b s w' (m++num8 (x:Int)):=by
 have hh:=h
 obtain ⟨S',a,g,c,e,n⟩:=h
 refine (wfloat a x x1 hl).mono fun e w' ⟨r,t⟩=>⟨r,hh.step fun S2 a2 n2=>?_⟩
 have:S2=S':=funext fun q=>propext (a2.one a q)
 subst this
 exact t
end
set_option maxRecDepth 10000 in
set_option maxHeartbeats 4000000 in
theorem wlevel {W:World} {p:Nat} {S:Nat→Prop} {l:List Int} (h:Wr W p S l) (ao:Option Addr) (c:Nat) (lv:List Sg) (hg:GS W ao lv) (af:∀ a,ao=some a→0<lv.length→¬ S a.block) (te:∀ s∈lv,0≤s.te) (hv:lv.length≤2000000) (hl:l.length≤140000000000000) :
  Calls Tryz.prog 30 #[.pointer (some ⟨p,0,none⟩), .slice ao lv.length c] W fun e W'=>e=.returned (.tuple #[])∧WStep W W' p S (l++levB lv):=by
 have HL:Hid (l.length≤140000000000000):=hl
 have HG:Hid (GS W ao lv):=hg
 have AF:Hid (∀ a,ao=some a→0<lv.length→¬ S a.block):=af
 have TE:Hid (∀ s∈lv,0≤s.te):=te
 have NU:Hid (Calls Tryz.prog 25 #[.pointer (some ⟨p,0,none⟩), .int .i64 (lv.length:Int)] W fun e W'=>e=.returned (.tuple #[])∧WStep W W' p S (l++num8 (lv.length:Int))):=wcount h _ (by omega) (by omega) (by omega)
 clear h hg af te hl
 obtain ⟨n,hn⟩:∃ n,lv.length=n:=⟨_,rfl⟩
 have LN:Hid (lv.length=n):=hn
 rw [hn] at NU hv
 rw [hn]
 clear hn
 go_enter Tryz.func30,Tryz.ntmps30
 go_wp2_with fail
 refine NU.out.mono ?_
 rintro e w2 ⟨rfl,R⟩
 have RR:Hid (WStep W w2 p S (l++(num8 (lv.length:Int)++segsB (lv.take 0)))):=by
  show WStep _ _ _ _ _
  rw [LN.out]
  simpa [segsB] using R
 clear R NU
 go_wp2_with fail
 go_loopg [12] n (fun gg s12 wr=>∃ i:Nat,s12=.int .i64 i∧i≤n∧n-i≤gg∧Hid (WStep W wr p S (l++(num8 (lv.length:Int)++segsB (lv.take i)))))
 case atStart=>exact ⟨0,rfl,Nat.zero_le _,by omega,RR⟩
 case round =>
  clear RR
  obtain ⟨i,rfl,h1,h2,RI⟩:=hrel
  by_cases hlt:i<n
  ·obtain ⟨sb,sf,rfl,hsb,hc⟩:=HG.out.cells (by rw [LN.out];omega)
   have q0:=hc i (by rw [LN.out];exact hlt)
   have OK:=HG.out.ok i (by rw [LN.out];exact hlt)
   have sS:=AF.out _ rfl (by rw [LN.out];omega)
   obtain ⟨S1,W1,G1,sub1⟩:=RI.out
   have q:SgAt wr sb (sf+i*5) (lv.getD i sg0):=by
    have e:∀ o,wr.cell? ⟨sb,o,none⟩=W.cell? ⟨sb,o,none⟩:=fun o=>World.cell?_of_block (a:=⟨sb,o,none⟩) (G1.block sb hsb sS)
    exact ⟨(e _).trans q0.c0,(e _).trans q0.c1,(e _).trans q0.c2,(e _).trans q0.c3,(e _).trans q0.c4⟩
   have sm:lv.getD i sg0∈lv:=by
    have hi:i<lv.length:=by rw [LN.out];exact hlt
    have:lv.getD i sg0=lv[i]:=by simp [List.getD,hi]
    rw [this]
    exact List.getElem_mem hi
   have te:=TE.out _ sm
   have TK:lv.take (i+1)=lv.take i++[lv.getD i sg0]:=by
    have hi:i<lv.length:=by rw [LN.out];exact hlt
    rw [List.take_add_one,List.getElem?_eq_getElem hi]
    simp [List.getD,hi]
   have ll:(l++(num8 (lv.length:Int)++segsB (lv.take i))).length≤140000048100000:=by
    rw [List.length_append,List.length_append,num8_len,segsB_len,List.length_take,LN.out]
    have:=HL.out
    omega
   generalize lv.getD i sg0=s at q OK sm te TK
   obtain ⟨sk,ssl,sic,sfr,ste⟩:=s
   have c0:wr.cell? ⟨sb,sf+i*5,none⟩=some (.int .u64 sk):=q.c0
   have c1:wr.cell? ⟨sb,sf+i*5+1,none⟩=some (.float .f64 ssl):=q.c1
   have c2:wr.cell? ⟨sb,sf+i*5+2,none⟩=some (.float .f64 sic):=q.c2
   have c3:wr.cell? ⟨sb,sf+i*5+3,none⟩=some (.int .i64 sfr):=q.c3
   have c4:wr.cell? ⟨sb,sf+i*5+4,none⟩=some (.int .i64 ste):=q.c4
   have W5:=W1.gw ((Gw.refl wr).alloc #[.int .u64 sk, .float .f64 ssl, .float .f64 sic, .int .i64 sfr, .int .i64 ste] 100)
   have G5:Hid (Gs S1 wr (wr.alloc (.cells #[.int .u64 sk, .float .f64 ssl, .float .f64 sic, .int .i64 sfr, .int .i64 ste] 100))):=((Gw.refl wr).alloc _ _).gs S1
   have bx5:(wr.alloc (.cells #[.int .u64 sk, .float .f64 ssl, .float .f64 sic, .int .i64 sfr, .int .i64 ste] 100)).heap[wr.heap.size]?=some (.cells #[.int .u64 sk, .float .f64 ssl, .float .f64 sic, .int .i64 sfr, .int .i64 ste] 100 (0,0)):=heap_alloc_new wr _
   have nb:¬ S1 wr.heap.size:=fun x=>by have:=W1.lt _ x;omega
   have SEG:Hid (SegSt wr p S1 (l++(num8 (lv.length:Int)++segsB (lv.take i))) wr.heap.size ⟨sk,ssl,sic,sfr,ste⟩ (wr.alloc (.cells #[.int .u64 sk, .float .f64 ssl, .float .f64 sic, .int .i64 sfr, .int .i64 ste] 100)) []):=⟨S1,by simpa using W5,G5.out,fun q hq=>.inl hq,bx5,nb⟩
   obtain ⟨x0,hx0⟩:∃ x0,(l++(num8 (lv.length:Int)++segsB (lv.take i)))=x0:=⟨_,rfl⟩
   have X0:Hid ((l++(num8 (lv.length:Int)++segsB (lv.take i)))=x0):=hx0
   rw [hx0] at SEG ll
   have OKs:Hid (Sg.ok ⟨sk,ssl,sic,sfr,ste⟩):=OK
   have TKs:Hid (lv.take (i+1)=lv.take i++[⟨sk,ssl,sic,sfr,ste⟩]):=TK
   have GG:Hid (Gs S W wr∧∀ q,S1 q→S q∨W.heap.size≤q):=⟨G1,sub1⟩
   clear hc q0 q W1 G1 sub1 W5 G5 bx5 nb RI OK TK hx0 sm
   go_wp2_with fail
   refine (SEG.out.count ste te OKs.out.t1 (by rw [List.append_nil];omega)).mono ?_
   rintro e w6 ⟨rfl,SG⟩
   have SEG2:Hid (SegSt wr p S1 x0 wr.heap.size ⟨sk,ssl,sic,sfr,ste⟩ w6 (num8 ste)):=SG
   have d1:=SG.cells.2.1
   have d2:=SG.cells.2.2.1
   have d5:=SG.lt
   clear SEG SG
   go_wp2_with fail
   refine (SEG2.out.float ssl OKs.out.s1 (by rw [List.length_append,num8_len];omega)).mono ?_
   rintro e w7 ⟨rfl,SG⟩
   have SEG3:Hid (SegSt wr p S1 x0 wr.heap.size ⟨sk,ssl,sic,sfr,ste⟩ w7 (num8 ste++num8 (ssl:Int))):=SG
   have d3:=SG.cells.2.2.1
   have d6:=SG.lt
   clear SEG2 SG d1 d2
   go_wp2_with fail
   refine (SEG3.out.float sic OKs.out.i1 (by rw [List.length_append,List.length_append,num8_len,num8_len];omega)).mono ?_
   rintro e w8 ⟨rfl,SG⟩
   have RES:Hid (WStep W w8 p S (l++(num8 (lv.length:Int)++segsB (lv.take (i+1))))):=by
    obtain ⟨S8,a,b,c,_,_⟩:=SG
    have:=WStep.after GG.out.1 GG.out.2 ⟨S8,a,b,c⟩
    show WStep _ _ _ _ _
    rw [TKs.out,segsB,List.flatMap_append]
    have e:l++(num8 (lv.length:Int)++((lv.take i).flatMap segB++[(⟨sk,ssl,sic,sfr,ste⟩:Sg)].flatMap segB))=x0++(num8 ste++num8 (ssl:Int)++num8 (sic:Int)):=by
     rw [←X0.out]
     simp [segB,segsB,List.append_assoc]
    rw [e]
    exact this
   clear SEG3 SG d3
   go_wp2_with fail
   go_roundg (n-(i+1))
   case measure=>omega
   case rel=>exact ⟨i+1,by go_num,by omega,Nat.le_refl _,RES⟩
  ·have e:i=n:=by omega
   subst e
   have RES:Hid (WStep W wr p S (l++levB lv)):=by
    have:=RI.out
    rw [List.take_of_length_le (by rw [LN.out];exact Nat.le_refl _)] at this
    exact this
   clear RI
   go_wp2_with fail
   go_end0
   exact ⟨rfl,RES.out⟩
end Go.Proofs.YtinefkljjnepjabGreat
