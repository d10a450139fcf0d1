/- Package codec: the writer. -/
import Derived.Deep.RegionLaw
import Derived.Test.YtpoohadckhphpaaGreatBVBuild
import Derived.Test.YtpoohadckhphpaaGreatBXOct3
set_option linter.unusedVariables false
set_option maxHeartbeats 8000000
set_option maxRecDepth 10000
open Go.Proofs.Tryz
namespace Go.Proofs.YtpoohadckhphpaaGreat
open Go.RowKit
attribute [local go_sem] run_store_float
def i8 (l:List Int):List Value:=l.map (Value.int .u8)
theorem i8_len (l:List Int):(i8 l).length=l.length:=by simp [i8]
theorem i8_app (a b:List Int):i8 (a++b)=i8 a++i8 b:=by simp [i8]
theorem i8_one (l:List Int):∀ u∈i8 l,u.oneCell'=true:=by
 intro u hu;obtain ⟨j,_,rfl⟩:=List.mem_map.1 hu;rfl
def WrR (W:World) (p:Nat) (S:Nat->Prop) (l:List Int) (vo:Option Addr) (cap:Nat):Prop :=
 W.heap[p]?=some (.cells #[.slice vo l.length cap] 172 (0,0))/\W.ownsRow 0 5 1 (.slice vo l.length cap) l.length (i8 l)/\(∀ q,(Value.slice vo l.length cap).ownBlock=some q->q≠p)/\∀ q,S q↔q=p\/(Value.slice vo l.length cap).ownBlock=some q
def Wr (W:World) (p:Nat) (S:Nat->Prop) (l:List Int):Prop:=∃ vo cap,WrR W p S l vo cap
def WStep (W W':World) (p:Nat) (S:Nat->Prop) (l:List Int):Prop:=∃ S',Wr W' p S' l/\Gs S W W'/\∀ q,S' q->S q\/W.heap.size<=q
theorem Wr.lt {W:World} {p:Nat} {S:Nat->Prop} {l:List Int} (h:Wr W p S l):∀ q,S q->q<W.heap.size:=by
 obtain ⟨vo,cap,h1,h2,h3,h4⟩:=h;intro q hq;rcases (h4 q).1 hq with rfl | e
 ·exact (Array.getElem?_eq_some_iff.1 h1).1
 ·exact (World.ownsRow.lt h2 q e).2
theorem Wr.keep {W W':World} {p:Nat} {S:Nat->Prop} {l:List Int} (h:Wr W p S l) (k:∀ q,S q->W'.heap[q]?=W.heap[q]?):Wr W' p S l:=by
 obtain ⟨vo,cap,h1,h2,h3,h4⟩:=h;exact ⟨vo,cap,(k p ((h4 p).2 (.inl rfl))).trans h1,own_kept h2 fun q hq=>k q ((h4 q).2 (.inr hq)),h3,h4⟩
theorem Wr.gw {W W':World} {p:Nat} {S:Nat->Prop} {l:List Int} (h:Wr W p S l) (g:Gw W W'):Wr W' p S l:=h.keep fun q hq=>g.below.block q (h.lt q hq)
theorem Wr.one {W:World} {p:Nat} {S S':Nat->Prop} {l:List Int} (h:Wr W p S l) (h':Wr W p S' l) (q:Nat):S q↔S' q:=by
 obtain ⟨vo,cap,h1,_,_,h4⟩:=h;obtain ⟨vo',cap',h1',_,_,h4'⟩:=h';rw [h1] at h1';cases h1';rw [h4,h4']
theorem WStep.after {W W1 W2:World} {p:Nat} {S S1:Nat->Prop} {l:List Int} (g:Gs S W W1) (s:∀ q,S1 q->S q\/W.heap.size<=q) (h:WStep W1 W2 p S1 l):WStep W W2 p S l:=by
 obtain ⟨S',a,b,c⟩:=h;refine ⟨S',a,⟨b.os.trans g.os,b.tape.trans g.tape,b.output.trans g.output,Nat.le_trans g.size b.size,fun q hq hs=>(b.block q (Nat.lt_of_lt_of_le hq g.size) (fun x=>?_)).trans (g.block q hq hs)⟩,fun q hq=>?_⟩
 ·rcases s q x with y | y
  ·exact hs y
  ·omega
 ·rcases c q hq with x | x
  ·exact s q x
  ·exact .inr (Nat.le_trans g.size x)
theorem WStep.none {W W':World} {p:Nat} {S:Nat->Prop} {l:List Int} (h:Wr W p S l) (g:Gw W W'):WStep W W' p S l:=⟨S,h.gw g,g.gs S,fun q hq=>.inl hq⟩
theorem Wr.put {W W1 W2:World} {p:Nat} {S:Nat->Prop} {l m:List Int} {vo:Option Addr} {cap:Nat} {v':Value} (h:WrR W p S l vo cap) (g1:Gw W W1)
  (r1:W2.ownsRow 0 5 1 v' (l.length+m.length) (i8 l++i8 m)) (r2:W1.grownBy W2 (Value.slice vo l.length cap).ownBlock) (r4:v'.ownBlock=(Value.slice vo l.length cap).ownBlock\/v'.ownBlock=some W1.heap.size) :
  WStep W (W2.setCell ⟨p,0,none⟩ v') p S (l++m):=by
 obtain ⟨h1,h2,h3,h4⟩:=h;have pl:p<W.heap.size:=(Array.getElem?_eq_some_iff.1 h1).1;have FM:∃ ao' c,v'=.slice ao' (l++m).length c:=by
  rw [List.length_append];rcases r1.2 with ⟨e,z⟩ | ⟨g,cap,cur,e,hb,hh,hc,_⟩
  ·exact ⟨none,0,by rw [e,z]⟩
  ·exact ⟨some ⟨g,0,none⟩,cap,e⟩
 obtain ⟨ao,c,rfl⟩:=FM;have np:∀ q,(Value.slice ao (l++m).length c).ownBlock=some q->q≠p:=fun q hq=>by
  rcases r4 with e | e
  ·exact h3 q (e▸hq)
  ·rw [e] at hq
   cases hq
   have:=g1.size
   omega
 have b2:W2.heap[p]?=some (.cells #[.slice vo l.length cap] 172 (0,0)):=(r2.block p (Nat.lt_of_lt_of_le pl g1.size) (fun e=>h3 p e.symm rfl)).trans ((g1.below.block p pl).trans h1)
 refine ⟨fun q=>q=p\/(Value.slice ao (l++m).length c).ownBlock=some q,⟨ao,c,by simp [World.setCell,Array.getElem?_modify,b2],?_,np,fun q=>Iff.rfl⟩,?_,?_⟩
 ·have:=own_kept (w':=W2.setCell ⟨p,0,none⟩ (.slice ao (l++m).length c)) r1 fun q hq=>Go.Deep.blk_setCell_other _ _ _ _ (np q hq)
  rw [<-i8_app,<-List.length_append] at this;exact this
 ·exact ((g1.gs S).grown r2 fun k hk=>(h4 k).2 (.inr hk)).set ((h4 p).2 (.inl rfl)) _ _
 ·rintro q (rfl | e)
  ·exact .inl ((h4 _).2 (.inl rfl))
  ·rcases r4 with x | x
   ·exact .inl ((h4 q).2 (.inr (x▸e)))
   ·rw [x] at e
    cases e
    exact .inr g1.size
theorem num8_row {w:World} {b:Nat} {x:Int} (h:w.rowIs b 5 (0+8) (fun i=>.int .u8 (cat (fun _=>0) 0 (fun i=>byt x (7-i)) i))):∀ j u,(i8 (num8 x))[j]?=some u->w.cell? ((⟨b,0,none⟩:Addr).add j)=some u:=by
 intro j u hu;have hj:j<8:=by
  have:=(List.getElem?_eq_some_iff.1 hu).1
  rw [i8_len,num8_len] at this;exact this
 rw [Addr.add_lit,Nat.zero_add,h.cell (by omega)]
 rw [<-hu];unfold i8;rw [List.getElem?_map,byt_nums x j hj];rfl
theorem own_form {w:World} {base e size n:Nat} {v:Value} {xs:List Value} (h:w.ownsRow base e size v n xs):∃ ao c,v=.slice ao n c:=by
 rcases h.2 with ⟨e,z⟩ | ⟨g,cap,cur,e,hb,hh,hc,_⟩
 ·exact ⟨none,0,by rw [e,z]⟩
 ·exact ⟨some ⟨g,0,none⟩,cap,e⟩
theorem own_u8 {w:World} {base n:Nat} {v:Value} {xs:List Value} (h:w.ownsRow base 5 1 v n xs):∀ q,v.ownBlock=some q->∃ c,w.heap[q]?=some (.cells c 5 (0,0)):=by
 intro q hq;rcases h.2 with ⟨e,z⟩ | ⟨g,cap,cur,e,hb,hh,hc,_⟩
 ·rw [e] at hq;cases hq
 ·rw [e] at hq;cases hq;exact ⟨cur,hh⟩
theorem bs_nil (w:World) (ao:Option Addr) (f:Nat->Int):BS w ao 0 f:=⟨fun h=>by omega,fun i hi=>by omega⟩
theorem step_app12 {P:Program} (w:World) {ops:Array Oper} {o:Oper} {a:Act} {K:Act->World->Prop} {Q:Exit->Act->World->Prop} {E:Prop} (hgd:o.guard=none) (s x:Operand) (t:TypeId)
  (ho:o.op=.call { callee:=.builtin .append,args:=#[s,x],argTypes:=#[t,t] })
  (base:Nat) (e:TypeId) (i:TypeInfo) (z:Value) (size bytes:Nat) (ht:P.underlying t=some (.slice e)) (hi:P.info? e=some i) (hz:i.zero=some z)
  (hsize:i.size=size) (hby:i.bytes=bytes) (hzs:z.cells.size=size) (hsz:0<size)
  (v:Value) (n:Nat) (xs:List Value) (hs:a.eval s=v) (hown:w.ownsRow base e size v n xs)
  (ad:Addr) (m c:Nat) (news:List Value) (hx:a.eval x=.slice (some ad) m c) (hl:news.length=m*size) (hnews:∀ j u,news[j]?=some u->w.cell? (ad.add j)=some u) (h1:∀ u∈news,u.oneCell'=true)
  (h63:n+m<=maxLen) (hbytes:(n+m)*bytes<=140737488355328) (hbase:base<=w.heap.size)
  (h:∀ v' w',w'.ownsRow base e size v' (n+m) (xs++news)->w.grownBy w' v.ownBlock->(v'=.slice none 0 0↔v=.slice none 0 0/\m=0)->(v'.ownBlock=v.ownBlock\/v'.ownBlock=some w.heap.size)->K (a.put o.dst v') w') :
  if Region.wanted o (yielded ops a.tmps)=true then Oper.wp P o a w K Q else E:=by
 have hw:Region.wanted o (yielded ops a.tmps)=true:=by simp [Region.wanted,hgd]
 rw [if_pos hw];obtain ⟨v',w',hr,h2,h3,h4,h5⟩:=run_append_own_at (P:=P) w base t o.type e i z size bytes ht hi hz hsize hby hzs hsz v n xs hown ad m c news hl hnews h1 h63 hbytes hbase;unfold Oper.wp execOp;simp only [ho,resolve,invoke,builtin,Sem.run_bind,Sem.run_pure,Result.andThen_ok,List.map_toArray,List.map_cons,List.map_nil,hs,hx,hr];exact h v' w' h2 h3 h4 h5
theorem wnumber {W:World} {p:Nat} {S:Nat->Prop} {l:List Int} (h:Wr W p S l) (x:Int) (x0:0<=x) (x1:x<18446744073709551616) (hl:l.length<=140737488355000) :
  Calls prog 140 #[.pointer (some ⟨p,0,none⟩),.int .u64 x] W fun e W'=>e=.returned (.tuple #[])/\WStep W W' p S (l++num8 x):=by
 obtain ⟨vo,cap,hR⟩:=h;have HR:Hid (WrR W p S l vo cap):=hR;obtain ⟨c0,f0⟩:=rd_cell hR.1;have pl:p<W.heap.size:=(Array.getElem?_eq_some_iff.1 hR.1).1;obtain ⟨ii,hii,iz,is,iby⟩:=info_parts info_b;have PU:Hid (∀ W1,Calls prog 139 #[.slice none 0 0,.int .u64 x] W1 fun e w'=>(∃ b,e=.returned (.slice (some ⟨b,0,none⟩) (0+8) (0+8))/\W1.heap.size<=b/\w'.rowIs b 5 (0+8) (fun i=>.int .u8 (cat (fun _=>0) 0 (fun i=>byt x (7-i)) i)))/\Gw W1 w'):=fun W1=>xput_any none 0 0 (fun _=>0) x x0 x1 (by omega) W1 (bs_nil _ _ _)
 obtain ⟨n,hn⟩:∃ n,l.length=n:=⟨_,rfl⟩;have LN:Hid (l.length=n):=hn;rw [hn] at c0 hl;have KO:Hid (∀ w4,Gw W w4->w4.ownsRow 0 5 1 (.slice vo n cap) n (i8 l)):=fun w4 g4=>LN.out▸own_kept HR.out.2.1 (fun q hq=>g4.below.block q (World.ownsRow.lt HR.out.2.1 q hq).2)
 have FIN:Hid (∀ w4 v' w5,Gw W w4->w5.ownsRow 0 5 1 v' (n+8) (i8 l++i8 (num8 x))->w4.grownBy w5 (Value.slice vo n cap).ownBlock->(v'.ownBlock=(Value.slice vo n cap).ownBlock\/v'.ownBlock=some w4.heap.size)->(w5.cell? ⟨p,0,none⟩=some (.slice vo n cap)/\w5.frozen? ⟨p,0,none⟩=false)/\WStep W (w5.setCell ⟨p,0,none⟩ v') p S (l++num8 x)):=fun w4 v' w5 g4 r1 r2 r4=>by
  have H:=HR.out;have e:=LN.out;subst e;exact ⟨rd_cell ((r2.block p (Nat.lt_of_lt_of_le pl g4.size) (fun e=>H.2.2.1 p e.symm rfl)).trans ((g4.below.block p pl).trans H.1)),Wr.put H g4 (by rw [num8_len];exact r1) r2 r4⟩
 clear hR hn;go_enter func140,ntmps140;go_wp2_with fail;go_region_law (first
  | (go_simp;refine (PU.out _).mono ?_;rintro e w4 ⟨⟨b,rfl,hb,hR4⟩,g4⟩;have C4:=(g4.cell p 0 pl).trans c0;have NW:Hid (∀ j u,(i8 (num8 x))[j]?=some u->w4.cell? ((⟨b,0,none⟩:Addr).add j)=some u):=num8_row hR4;have G4:Hid (Gw W w4):=((Gw.refl W).drew).trans g4;have OW:Hid (w4.ownsRow 0 5 1 (.slice vo n cap) n (i8 l)):=KO.out w4 G4.out;clear g4 hR4 hb)
  | (refine step_app12 _ rfl (.tmp 8) (.tmp 10) 22 rfl 0 5 ii (.int .u8 0) 1 1 underlying22 hii iz is iby rfl (by decide) (.slice vo n cap) n (i8 l) (by simp [Act.eval]) OW.out ⟨b,0,none⟩ 8 8 (i8 (num8 x)) (by simp [Act.eval]) (by rw [i8_len,num8_len]) NW.out (i8_one _) (by simp only [maxLen];omega) (by omega) (Nat.zero_le _) ?_;intro v' w5 r1 r2 r3 r4;obtain ⟨ao',c',rfl⟩:=own_form r1;obtain ⟨⟨C5,F5⟩,WS'⟩:=FIN.out w4 _ w5 G4.out r1 r2 r4;have WS:Hid (WStep W (w5.setCell ⟨p,0,none⟩ (.slice ao' (n+8) c')) p S (l++num8 x)):=WS';clear r1 r2 r3 r4 WS'))
 all_goals go_wp2_with fail
 all_goals go_end0
 all_goals exact ⟨rfl,WS.out⟩
theorem wfloat {W:World} {p:Nat} {S:Nat->Prop} {l:List Int} (h:Wr W p S l) (x:Nat) (x1:x<18446744073709551616) (hl:l.length<=140737488355000) :
  Calls prog 142 #[.pointer (some ⟨p,0,none⟩),.float .f64 x] W fun e W'=>e=.returned (.tuple #[])/\WStep W W' p S (l++num8 (x:Int)):=by
 obtain ⟨vo,cap,hR⟩:=h;have HR:Hid (WrR W p S l vo cap):=hR;obtain ⟨c0,f0⟩:=rd_cell hR.1;have pl:p<W.heap.size:=(Array.getElem?_eq_some_iff.1 hR.1).1;obtain ⟨ii,hii,iz,is,iby⟩:=info_parts info_b;have PU:Hid (∀ W1,Calls prog 164 #[.slice none 0 0,.float .f64 x] W1 fun e w'=>(∃ b,e=.returned (.slice (some ⟨b,0,none⟩) (0+8) (0+8))/\W1.heap.size<=b/\w'.rowIs b 5 (0+8) (fun i=>.int .u8 (cat (fun _=>0) 0 (fun i=>byt (x:Int) (7-i)) i)))/\Gw W1 w'):=fun W1=>xputf_any none 0 0 (fun _=>0) x x1 (by omega) W1 (bs_nil _ _ _)
 obtain ⟨n,hn⟩:∃ n,l.length=n:=⟨_,rfl⟩;have LN:Hid (l.length=n):=hn;rw [hn] at c0 hl;have KO:Hid (∀ w4,Gw W w4->w4.ownsRow 0 5 1 (.slice vo n cap) n (i8 l)):=fun w4 g4=>LN.out▸own_kept HR.out.2.1 (fun q hq=>g4.below.block q (World.ownsRow.lt HR.out.2.1 q hq).2)
 have FIN:Hid (∀ w4 v' w5,Gw W w4->w5.ownsRow 0 5 1 v' (n+8) (i8 l++i8 (num8 (x:Int)))->w4.grownBy w5 (Value.slice vo n cap).ownBlock->(v'.ownBlock=(Value.slice vo n cap).ownBlock\/v'.ownBlock=some w4.heap.size)->(w5.cell? ⟨p,0,none⟩=some (.slice vo n cap)/\w5.frozen? ⟨p,0,none⟩=false)/\WStep W (w5.setCell ⟨p,0,none⟩ v') p S (l++num8 (x:Int))):=fun w4 v' w5 g4 r1 r2 r4=>by
  have H:=HR.out;have e:=LN.out;subst e;exact ⟨rd_cell ((r2.block p (Nat.lt_of_lt_of_le pl g4.size) (fun e=>H.2.2.1 p e.symm rfl)).trans ((g4.below.block p pl).trans H.1)),Wr.put H g4 (by rw [num8_len];exact r1) r2 r4⟩
 clear hR hn;go_enter func142,ntmps142;go_wp2_with fail;go_region_law (first
  | (go_simp;refine (PU.out _).mono ?_;rintro e w4 ⟨⟨b,rfl,hb,hR4⟩,g4⟩;have C4:=(g4.cell p 0 pl).trans c0;have NW:Hid (∀ j u,(i8 (num8 (x:Int)))[j]?=some u->w4.cell? ((⟨b,0,none⟩:Addr).add j)=some u):=num8_row hR4;have G4:Hid (Gw W w4):=((Gw.refl W).drew).trans g4;have OW:Hid (w4.ownsRow 0 5 1 (.slice vo n cap) n (i8 l)):=KO.out w4 G4.out;clear g4 hR4 hb)
  | (refine step_app12 _ rfl (.tmp 8) (.tmp 10) 22 rfl 0 5 ii (.int .u8 0) 1 1 underlying22 hii iz is iby rfl (by decide) (.slice vo n cap) n (i8 l) (by simp [Act.eval]) OW.out ⟨b,0,none⟩ 8 8 (i8 (num8 (x:Int))) (by simp [Act.eval]) (by rw [i8_len,num8_len]) NW.out (i8_one _) (by simp only [maxLen];omega) (by omega) (Nat.zero_le _) ?_;intro v' w5 r1 r2 r3 r4;obtain ⟨ao',c',rfl⟩:=own_form r1;obtain ⟨⟨C5,F5⟩,WS'⟩:=FIN.out w4 _ w5 G4.out r1 r2 r4;have WS:Hid (WStep W (w5.setCell ⟨p,0,none⟩ (.slice ao' (n+8) c')) p S (l++num8 (x:Int))):=WS';clear r1 r2 r3 r4 WS'))
 all_goals go_wp2_with fail
 all_goals go_end0
 all_goals exact ⟨rfl,WS.out⟩
theorem wcount {W:World} {p:Nat} {S:Nat->Prop} {l:List Int} (h:Wr W p S l) (x:Int) (x0:0<=x) (x1:x<9223372036854775808) (hl:l.length<=140737488355000) :
  Calls prog 97 #[.pointer (some ⟨p,0,none⟩),.int .i64 x] W fun e W'=>e=.returned (.tuple #[])/\WStep W W' p S (l++num8 x):=by
 have NU:Hid (Calls prog 140 #[.pointer (some ⟨p,0,none⟩),.int .u64 x] W fun e W'=>e=.returned (.tuple #[])/\WStep W W' p S (l++num8 x)):=wnumber h x x0 (by omega) hl
 clear h hl;go_enter func97,ntmps97;go_wp2_with fail;refine NU.out.mono ?_;rintro e w2 ⟨rfl,R⟩;have RR:Hid (WStep W w2 p S (l++num8 x)):=R;clear R NU;go_wp2_with fail;go_end0;exact ⟨rfl,RR.out⟩
theorem wentry {W:World} {p:Nat} {S:Nat->Prop} {l:List Int} (h:Wr W p S l) (k v:Int) (g:Bool) (k0:0<=k) (k1:k<18446744073709551616) (v0:0<=v) (v1:v<18446744073709551616) (hl:l.length<=140737488354000) :
  Calls prog 100 #[.pointer (some ⟨p,0,none⟩),.agg #[.int .u64 k,.int .u64 v,.bool g]] W fun e W'=>e=.returned (.tuple #[])/\WStep W W' p S (l++entB k v g):=by
 have lt:=h.lt;have h1:=h.gw ((Gw.refl W).alloc #[.int .u64 k,.int .u64 v,.bool g] 81);have NU:Hid (Calls prog 140 #[.pointer (some ⟨p,0,none⟩),.int .u64 k] (W.alloc (.cells #[.int .u64 k,.int .u64 v,.bool g] 81)) fun e W'=>e=.returned (.tuple #[])/\WStep W W' p S (l++num8 k)/\W'.heap[W.heap.size]?=some (.cells #[.int .u64 k,.int .u64 v,.bool g] 81 (0,0))):=(wnumber h1 k k0 k1 (by omega)).mono fun e w' ⟨a,S',b,c,d⟩=>⟨a,.after (((Gw.refl W).alloc _ _).gs S) (fun q hq=>.inl hq) ⟨S',b,c,d⟩,(c.block W.heap.size (by simp) (fun x=>by have:=lt _ x;omega)).trans (heap_alloc_new W _)⟩
 obtain ⟨ii,hii,iz,is,iby⟩:=info_parts info_b;have HL:Hid (l.length<=140737488354000):=hl;clear h h1 lt hl;go_enter func100,ntmps100;go_wp2_with fail;refine NU.out.mono ?_;rintro e w2 ⟨rfl,R,BX⟩;have RR:Hid (WStep W w2 p S (l++num8 k)):=R;obtain ⟨S2,⟨vo,cap,hR⟩,G2,sub⟩:=R;have HR:Hid (WrR w2 p S2 (l++num8 k) vo cap):=hR;obtain ⟨c0,f0⟩:=rd_cell hR.1;have pl:p<w2.heap.size:=(Array.getElem?_eq_some_iff.1 hR.1).1;have e0:w2.cell? ⟨W.heap.size,1,none⟩=some (.int .u64 v):=by simp [World.cell?,BX]
 have e1:w2.cell? ⟨W.heap.size,2,none⟩=some (.bool g):=by simp [World.cell?,BX]
 have wl:W.heap.size<w2.heap.size:=(Array.getElem?_eq_some_iff.1 BX).1;have GS2:Hid (Gs S W w2/\∀ q,S2 q->S q\/W.heap.size<=q):=⟨G2,sub⟩;have WB:Hid (¬ S2 W.heap.size):=fun x=>by
  rcases (hR.2.2.2 _).1 x with y | y
  ·subst y
   rw [hR.1] at BX;cases BX
  ·have:=own_u8 hR.2.1 _ y
   obtain ⟨cc,hcc⟩:=this;rw [hcc] at BX;cases BX
 obtain ⟨n,hn⟩:∃ n,(l++num8 k).length=n:=⟨_,rfl⟩;have LN:Hid ((l++num8 k).length=n):=hn;have hl:n<=140737488354008:=by have:=HL.out;rw [<-hn,List.length_append,num8_len];omega
 rw [hn] at c0;have KO:Hid (∀ w4,Gw w2 w4->w4.ownsRow 0 5 1 (.slice vo n cap) n (i8 (l++num8 k))):=fun w4 g4=>LN.out▸own_kept HR.out.2.1 (fun q hq=>g4.below.block q (World.ownsRow.lt HR.out.2.1 q hq).2)
 have FIN:Hid (∀ y w4 v' w5,Gw w2 w4->w5.ownsRow 0 5 1 v' (n+1) (i8 (l++num8 k)++i8 [y])->w4.grownBy w5 (Value.slice vo n cap).ownBlock->(v'.ownBlock=(Value.slice vo n cap).ownBlock\/v'.ownBlock=some w4.heap.size)->(w5.cell? ⟨p,0,none⟩=some (.slice vo n cap)/\w5.frozen? ⟨p,0,none⟩=false)/\WStep w2 (w5.setCell ⟨p,0,none⟩ v') p S2 (l++num8 k++[y])):=fun y w4 v' w5 g4 r1 r2 r4=>by
  have H:=HR.out;have e:=LN.out;subst e;exact ⟨rd_cell ((r2.block p (Nat.lt_of_lt_of_le pl g4.size) (fun e=>H.2.2.1 p e.symm rfl)).trans ((g4.below.block p pl).trans H.1)),Wr.put H g4 r1 r2 r4⟩
 clear NU hR hn G2 sub RR BX;cases g with
 | true =>
  go_wp2_with (at_builtin;refine wpList_append_own_at _ rfl _ _ 22 rfl 0 5 ii (.int .u8 0) 1 1 underlying22 hii iz is iby rfl (by decide) _ n _ rfl (KO.out _ ((Gw.refl w2).alloc _ _)) ⟨w2.heap.size,0,none⟩ 1 1 (i8 [1]) rfl rfl (cell_one_new w2 _ _) (i8_one _) (by simp only [maxLen];omega) (by omega) (Nat.zero_le _) ?_)
  intro v' w5 r1 r2 r3 r4;obtain ⟨ao',c',rfl⟩:=own_form r1;obtain ⟨⟨C5,F5⟩,WS'⟩:=FIN.out 1 _ _ w5 ((Gw.refl w2).alloc _ _) r1 r2 (by simpa using r4)
  have WS:Hid (WStep w2 (w5.setCell ⟨p,0,none⟩ (.slice ao' (n+1) c')) p S2 (l++num8 k++[1])):=WS';clear r1 r2 r3 r4 WS';go_wp2_with fail;refine bodyPost_ret (v:=.tuple #[]) (by simp [results,results100,go_sem]) rfl ⟨rfl,?_⟩
  have:=WStep.after GS2.out.1 GS2.out.2 WS.out
  rw [List.append_assoc] at this;exact this
 | false =>
  go_wp2_with (at_builtin;refine wpList_append_own_at _ rfl _ _ 22 rfl 0 5 ii (.int .u8 0) 1 1 underlying22 hii iz is iby rfl (by decide) _ n _ rfl (KO.out _ ((Gw.refl w2).alloc _ _)) ⟨w2.heap.size,0,none⟩ 1 1 (i8 [0]) rfl rfl (cell_one_new w2 _ _) (i8_one _) (by simp only [maxLen];omega) (by omega) (Nat.zero_le _) ?_)
  intro v' w5 r1 r2 r3 r4;obtain ⟨ao',c',rfl⟩:=own_form r1;obtain ⟨⟨C5,F5⟩,WS'⟩:=FIN.out 0 _ _ w5 ((Gw.refl w2).alloc _ _) r1 r2 (by simpa using r4)
  have WS:Hid (WStep w2 (w5.setCell ⟨p,0,none⟩ (.slice ao' (n+1) c')) p S2 (l++num8 k++[0])):=WS';have e2:(w5.setCell ⟨p,0,none⟩ (.slice ao' (n+1) c')).cell? ⟨W.heap.size,1,none⟩=some (.int .u64 v):=by
   obtain ⟨S3,_,G3,_⟩:=WS';exact (World.cell?_of_block (a:=⟨W.heap.size,1,none⟩) (G3.block _ wl WB.out)).trans e0
  have NV:Hid (Calls prog 140 #[.pointer (some ⟨p,0,none⟩),.int .u64 v] (w5.setCell ⟨p,0,none⟩ (.slice ao' (n+1) c')) fun e W'=>e=.returned (.tuple #[])/\WStep W W' p S (l++entB k v false)):=by
   obtain ⟨S3,h3,G3,sub3⟩:=WS';refine (wnumber h3 v v0 v1 (by rw [List.length_append,LN.out];simp;omega)).mono fun e w' ⟨a,b⟩=>⟨a,?_⟩
   have:=WStep.after GS2.out.1 GS2.out.2 (WStep.after G3 sub3 b)
   rw [List.append_assoc,List.append_assoc] at this;exact this
  clear r1 r2 r3 r4 WS' e0;go_wp2_with fail;refine NV.out.mono ?_;rintro e w6 ⟨rfl,R⟩;have RR:Hid (WStep W w6 p S (l++entB k v false)):=R;clear R NV;go_wp2_with fail;go_end0;exact ⟨rfl,RR.out⟩
def SegSt (W:World) (p:Nat) (S:Nat->Prop) (l:List Int) (b:Nat) (s:Sg) (w:World) (m:List Int):Prop:=∃ S',Wr w p S' (l++m)/\Gs S W w/\(∀ q,S' q->S q\/W.heap.size<=q)/\w.heap[b]?=some (.cells #[.int .u64 s.k,.float .f64 s.sl,.float .f64 s.ic,.int .i64 s.fr,.int .i64 s.te] 110 (0,0))/\¬ S' b
section
variable {W:World} {p:Nat} {S:Nat->Prop} {l m:List Int} {b:Nat} {s:Sg} {w:World}
theorem SegSt.lt (h:SegSt W p S l b s w m):b<w.heap.size:=by
 obtain ⟨S',_,_,_,e,_⟩:=h;exact (Array.getElem?_eq_some_iff.1 e).1
theorem SegSt.cells (h:SegSt W p S l b s w m):w.cell? ⟨b,0,none⟩=some (.int .u64 s.k)/\w.cell? ⟨b,1,none⟩=some (.float .f64 s.sl)/\w.cell? ⟨b,2,none⟩=some (.float .f64 s.ic)/\w.cell? ⟨b,4,none⟩=some (.int .i64 s.te):=by
 obtain ⟨S',_,_,_,e,_⟩:=h;refine ⟨?_,?_,?_,?_⟩<;>simp [World.cell?,e]
theorem SegSt.step (h:SegSt W p S l b s w m) {w':World} {x:List Int} (hs:∀ S',Wr w p S' (l++m)->¬ S' b->WStep w w' p S' (l++m++x)):SegSt W p S l b s w' (m++x):=by
 have bl:=h.lt;obtain ⟨S',a,g,c,e,n⟩:=h;obtain ⟨S2,a2,g2,c2⟩:=hs S' a n;have:=WStep.after g c ⟨S2,a2,g2,c2⟩;refine ⟨S2,by rw [<-List.append_assoc];exact a2,?_,fun q hq=>?_,(g2.block b bl n).trans e,fun x=>?_⟩
 ·exact ⟨g2.os.trans g.os,g2.tape.trans g.tape,g2.output.trans g.output,Nat.le_trans g.size g2.size,fun q hq hs=>(g2.block q (Nat.lt_of_lt_of_le hq g.size) (fun x=>by
   rcases c q x with y | y
   ·exact hs y
   ·omega)).trans (g.block q hq hs)⟩
 ·rcases c2 q hq with x | x
  ·exact c q x
  ·exact .inr (Nat.le_trans g.size x)
 ·rcases c2 b x with y | y
  ·exact n y
  ·omega
theorem SegSt.count (h:SegSt W p S l b s w m) (x:Int) (x0:0<=x) (x1:x<9223372036854775808) (hl:(l++m).length<=140737488355000) :
  Calls prog 97 #[.pointer (some ⟨p,0,none⟩),.int .i64 x] w fun e w'=>e=.returned (.tuple #[])/\SegSt W p S l b s w' (m++num8 x):=by
 have hh:=h;obtain ⟨S',a,g,c,e,n⟩:=h;refine (wcount a x x0 x1 hl).mono fun e w' ⟨r,t⟩=>⟨r,hh.step fun S2 a2 n2=>?_⟩
 have:S2=S':=funext fun q=>propext (a2.one a q)
 subst this;exact t
theorem SegSt.float (h:SegSt W p S l b s w m) (x:Nat) (x1:x<18446744073709551616) (hl:(l++m).length<=140737488355000) :
  Calls prog 142 #[.pointer (some ⟨p,0,none⟩),.float .f64 x] w fun e w'=>e=.returned (.tuple #[])/\SegSt W p S l b s w' (m++num8 (x:Int)):=by
 have hh:=h;obtain ⟨S',a,g,c,e,n⟩:=h;refine (wfloat a x x1 hl).mono fun e w' ⟨r,t⟩=>⟨r,hh.step fun S2 a2 n2=>?_⟩
 have:S2=S':=funext fun q=>propext (a2.one a q)
 subst this;exact t
end
theorem wlevel {W:World} {p:Nat} {S:Nat->Prop} {l:List Int} (h:Wr W p S l) (ao:Option Addr) (c:Nat) (lv:List Sg) (hg:GS W ao lv) (af:∀ a,ao=some a->0<lv.length->¬ S a.block) (te:∀ s∈lv,0<=s.te) (hv:lv.length<=2000000) (hl:l.length<=140000000000000) :
  Calls prog 103 #[.pointer (some ⟨p,0,none⟩),.slice ao lv.length c] W fun e W'=>e=.returned (.tuple #[])/\WStep W W' p S (l++levB lv):=by
 have HL:Hid (l.length<=140000000000000):=hl;have HG:Hid (GS W ao lv):=hg;have AF:Hid (∀ a,ao=some a->0<lv.length->¬ S a.block):=af;have TE:Hid (∀ s∈lv,0<=s.te):=te;have NU:Hid (Calls prog 97 #[.pointer (some ⟨p,0,none⟩),.int .i64 (lv.length:Int)] W fun e W'=>e=.returned (.tuple #[])/\WStep W W' p S (l++num8 (lv.length:Int))):=wcount h _ (by omega) (by omega) (by omega)
 clear h hg af te hl;obtain ⟨n,hn⟩:∃ n,lv.length=n:=⟨_,rfl⟩;have LN:Hid (lv.length=n):=hn;rw [hn] at NU hv;rw [hn];clear hn;go_enter func103,ntmps103;go_wp2_with fail;refine NU.out.mono ?_;rintro e w2 ⟨rfl,R⟩;have RR:Hid (WStep W w2 p S (l++(num8 (lv.length:Int)++segsB (lv.take 0)))):=by
  show WStep _ _ _ _ _;rw [LN.out];simpa [segsB] using R
 clear R NU;go_wp2_with fail;go_loopg [12] n (fun gg s12 wr=>∃ i:Nat,s12=.int .i64 i/\i<=n/\n-i<=gg/\Hid (WStep W wr p S (l++(num8 (lv.length:Int)++segsB (lv.take i)))))
 case atStart=>exact ⟨0,rfl,Nat.zero_le _,by omega,RR⟩
 case round =>
  clear RR;obtain ⟨i,rfl,h1,h2,RI⟩:=hrel;by_cases hlt:i<n
  ·obtain ⟨sb,sf,rfl,hsb,hc⟩:=HG.out.cells (by rw [LN.out];omega)
   have q0:=hc i (by rw [LN.out];exact hlt)
   have OK:=HG.out.ok i (by rw [LN.out];exact hlt)
   have sS:=AF.out _ rfl (by rw [LN.out];omega)
   obtain ⟨S1,W1,G1,sub1⟩:=RI.out;have q:SgAt wr sb (sf+i*5) (lv.getD i sg0):=by
    have e:∀ o,wr.cell? ⟨sb,o,none⟩=W.cell? ⟨sb,o,none⟩:=fun o=>World.cell?_of_block (a:=⟨sb,o,none⟩) (G1.block sb hsb sS)
    exact ⟨(e _).trans q0.c0,(e _).trans q0.c1,(e _).trans q0.c2,(e _).trans q0.c3,(e _).trans q0.c4⟩
   have sm:lv.getD i sg0∈lv:=by
    have hi:i<lv.length:=by rw [LN.out];exact hlt
    have:lv.getD i sg0=lv[i]:=by simp [List.getD,hi]
    rw [this];exact List.getElem_mem hi
   have te:=TE.out _ sm;have TK:lv.take (i+1)=lv.take i++[lv.getD i sg0]:=by
    have hi:i<lv.length:=by rw [LN.out];exact hlt
    rw [List.take_add_one,List.getElem?_eq_getElem hi];simp [List.getD,hi]
   have ll:(l++(num8 (lv.length:Int)++segsB (lv.take i))).length<=140000048100000:=by
    rw [List.length_append,List.length_append,num8_len,segsB_len,List.length_take,LN.out];have:=HL.out;omega
   generalize lv.getD i sg0=s at q OK sm te TK;obtain ⟨sk,ssl,sic,sfr,ste⟩:=s;have c0:wr.cell? ⟨sb,sf+i*5,none⟩=some (.int .u64 sk):=q.c0;have c1:wr.cell? ⟨sb,sf+i*5+1,none⟩=some (.float .f64 ssl):=q.c1;have c2:wr.cell? ⟨sb,sf+i*5+2,none⟩=some (.float .f64 sic):=q.c2;have c3:wr.cell? ⟨sb,sf+i*5+3,none⟩=some (.int .i64 sfr):=q.c3;have c4:wr.cell? ⟨sb,sf+i*5+4,none⟩=some (.int .i64 ste):=q.c4;have W5:=W1.gw ((Gw.refl wr).alloc #[.int .u64 sk,.float .f64 ssl,.float .f64 sic,.int .i64 sfr,.int .i64 ste] 110);have G5:Hid (Gs S1 wr (wr.alloc (.cells #[.int .u64 sk,.float .f64 ssl,.float .f64 sic,.int .i64 sfr,.int .i64 ste] 110))):=((Gw.refl wr).alloc _ _).gs S1;have bx5:(wr.alloc (.cells #[.int .u64 sk,.float .f64 ssl,.float .f64 sic,.int .i64 sfr,.int .i64 ste] 110)).heap[wr.heap.size]?=some (.cells #[.int .u64 sk,.float .f64 ssl,.float .f64 sic,.int .i64 sfr,.int .i64 ste] 110 (0,0)):=heap_alloc_new wr _;have nb:¬ S1 wr.heap.size:=fun x=>by have:=W1.lt _ x;omega
   have SEG:Hid (SegSt wr p S1 (l++(num8 (lv.length:Int)++segsB (lv.take i))) wr.heap.size ⟨sk,ssl,sic,sfr,ste⟩ (wr.alloc (.cells #[.int .u64 sk,.float .f64 ssl,.float .f64 sic,.int .i64 sfr,.int .i64 ste] 110)) []):=⟨S1,by simpa using W5,G5.out,fun q hq=>.inl hq,bx5,nb⟩
   obtain ⟨x0,hx0⟩:∃ x0,(l++(num8 (lv.length:Int)++segsB (lv.take i)))=x0:=⟨_,rfl⟩;have X0:Hid ((l++(num8 (lv.length:Int)++segsB (lv.take i)))=x0):=hx0;rw [hx0] at SEG ll;have OKs:Hid (Sg.ok ⟨sk,ssl,sic,sfr,ste⟩):=OK;have TKs:Hid (lv.take (i+1)=lv.take i++[⟨sk,ssl,sic,sfr,ste⟩]):=TK;have GG:Hid (Gs S W wr/\∀ q,S1 q->S q\/W.heap.size<=q):=⟨G1,sub1⟩;clear hc q0 q W1 G1 sub1 W5 G5 bx5 nb RI OK TK hx0 sm;go_wp2_with fail;refine (SEG.out.count ste te OKs.out.t1 (by rw [List.append_nil];omega)).mono ?_
   rintro e w6 ⟨rfl,SG⟩;have SEG2:Hid (SegSt wr p S1 x0 wr.heap.size ⟨sk,ssl,sic,sfr,ste⟩ w6 (num8 ste)):=SG;have d1:=SG.cells.2.1;have d2:=SG.cells.2.2.1;have d5:=SG.lt;clear SEG SG;go_wp2_with fail;refine (SEG2.out.float ssl OKs.out.s1 (by rw [List.length_append,num8_len];omega)).mono ?_
   rintro e w7 ⟨rfl,SG⟩;have SEG3:Hid (SegSt wr p S1 x0 wr.heap.size ⟨sk,ssl,sic,sfr,ste⟩ w7 (num8 ste++num8 (ssl:Int))):=SG;have d3:=SG.cells.2.2.1;have d6:=SG.lt;clear SEG2 SG d1 d2;go_wp2_with fail;refine (SEG3.out.float sic OKs.out.i1 (by rw [List.length_append,List.length_append,num8_len,num8_len];omega)).mono ?_
   rintro e w8 ⟨rfl,SG⟩;have RES:Hid (WStep W w8 p S (l++(num8 (lv.length:Int)++segsB (lv.take (i+1))))):=by
    obtain ⟨S8,a,b,c,_,_⟩:=SG;have:=WStep.after GG.out.1 GG.out.2 ⟨S8,a,b,c⟩;show WStep _ _ _ _ _;rw [TKs.out,segsB,List.flatMap_append];have e:l++(num8 (lv.length:Int)++((lv.take i).flatMap segB++[(⟨sk,ssl,sic,sfr,ste⟩:Sg)].flatMap segB))=x0++(num8 ste++num8 (ssl:Int)++num8 (sic:Int)):=by
     rw [<-X0.out];simp [segB,segsB,List.append_assoc]
    rw [e];exact this
   clear SEG3 SG d3;go_wp2_with fail;go_roundg (n-(i+1))
   case measure=>omega
   case rel=>exact ⟨i+1,by go_num,by omega,Nat.le_refl _,RES⟩
  ·have e:i=n:=by omega
   subst e;have RES:Hid (WStep W wr p S (l++levB lv)):=by
    have:=RI.out
    rw [List.take_of_length_le (by rw [LN.out];exact Nat.le_refl _)] at this
    exact this
   clear RI;go_wp2_with fail;go_end0;exact ⟨rfl,RES.out⟩
end Go.Proofs.YtpoohadckhphpaaGreat
namespace Go.Proofs.YtpoohadckhphpaaGreat
open Go.RowKit
attribute [local go_sem] run_store_float
def BL (w:World) (base:Nat) (v:Value) (l:List Int):Prop:=w.ownsRow base 5 1 v l.length (i8 l)
theorem own_up {w:World} {base base' e size n:Nat} {v:Value} {xs:List Value} (h:w.ownsRow base e size v n xs) (hb:∀ q,v.ownBlock=some q->base'<=q):w.ownsRow base' e size v n xs:=by
 refine ⟨h.1,?_⟩;rcases h.2 with q | ⟨g,cap,cur,rfl,_,r⟩
 ·exact .inl q
 ·exact .inr ⟨g,cap,cur,rfl,hb g rfl,r⟩
def PWr (w w4:World) (p2 base:Nat) (W:World) (l:List Int):Prop:=∃ S1,Wr W p2 S1 l/\(∀ q,S1 q->w.heap.size<=q)/\(∀ q,base<=q->q<w4.heap.size->W.heap[q]?=w4.heap[q]?/\¬ S1 q)/\w4.heap.size<=W.heap.size/\Gw w W
theorem PWr.step {w w4:World} {p2 base:Nat} {W W':World} {l l':List Int} {S1:Nat->Prop} (hw:Wr W p2 S1 l) (h1:∀ q,S1 q->w.heap.size<=q) (h2:∀ q,base<=q->q<w4.heap.size->W.heap[q]?=w4.heap[q]?/\¬ S1 q) (h3:w4.heap.size<=W.heap.size) (h4:Gw w W) (st:WStep W W' p2 S1 l'):PWr w w4 p2 base W' l':=by
 obtain ⟨S2,a,b,c⟩:=st;refine ⟨S2,a,fun q hq=>?_,fun q hb hq=>⟨(b.block q (by omega) (h2 q hb hq).2).trans (h2 q hb hq).1,fun x=>?_⟩,Nat.le_trans h3 b.size,?_⟩
 ·rcases c q hq with x | x
  ·exact h1 q x
  ·exact Nat.le_trans h4.size x
 ·rcases c q x with y | y
  ·exact (h2 q hb hq).2 y
  ·omega
 ·exact ⟨⟨b.os.trans h4.below.os,b.tape.trans h4.below.tape,b.output.trans h4.below.output,Nat.le_trans h4.size b.size,fun q hq=>(b.block q (Nat.lt_of_lt_of_le hq h4.size) (fun x=>by have:=h1 q x;omega)).trans (h4.below.block q hq)⟩⟩
theorem PWr.gw {w w4:World} {p2 base:Nat} {W W':World} {l:List Int} (h:PWr w w4 p2 base W l) (g:Gw W W'):PWr w w4 p2 base W' l:=by
 obtain ⟨S1,a,b,c,d,e⟩:=h;exact PWr.step a b c d e (.none a g)
theorem PWr.start {w W3 w4:World} {p2:Nat} {l:List Int} {S1:Nat->Prop} (hw:Wr W3 p2 S1 l) (h1:∀ q,S1 q->w.heap.size<=q) (g:Gw w W3) (g4:Gw W3 w4):PWr w w4 p2 W3.heap.size w4 l :=
 ⟨S1,hw.gw g4,h1,fun q hb hq=>⟨rfl,fun x=>by have:=hw.lt q x;omega⟩,Nat.le_refl _,g.trans g4⟩
theorem entsB_len_le (k v:Nat->Int) (g:Nat->Bool):∀ n,(entsB k v g n).length<=17*n:=by
 intro n;induction n with
 | zero=>exact Nat.le_refl _
 | succ n ih =>
  rw [entsB_succ,List.length_append,entB_len];split<;>omega
theorem levsB_len_le:∀ L:List (List Sg),(∀ l∈L,l.length<=2000000)->(levsB L).length<=L.length*48000008:=by
 intro L;induction L with
 | nil=>intro _;exact Nat.le_refl _
 | cons l L ih =>
  intro h;have e:levsB (l::L)=levB l++levsB L:=rfl;rw [e,List.length_append,levB_len,List.length_cons];have:=ih fun t ht=>h t (List.mem_cons_of_mem _ ht)
  have:=h l (List.mem_cons_self ..)
  omega
abbrev hd4:Array Value:=#[.int .u8 73,.int .u8 78,.int .u8 67,.int .u8 49]
theorem conv_head (w:World):(convert 22 22 (.slice (some ⟨w.heap.size,0,none⟩) 4 4)).run prog (w.alloc (.cells hd4 5))=.ok (.slice (some ⟨w.heap.size,0,none⟩) 4 4) (w.alloc (.cells hd4 5 (4,5))):=by
 have hsh:(w.alloc (.cells hd4 5)).shape? w.heap.size=some (5,4):=by
  have:(w.alloc (.cells hd4 5)).heap[w.heap.size]?=some (.cells hd4 5):=heap_alloc_new w _
  unfold World.shape?;rw [this];rfl
 have hfr:(w.alloc (.cells hd4 5)).freeze ⟨w.heap.size,4,none⟩ 1=w.alloc (.cells hd4 5 (4,5)):=by
  have hm:∀ (a:Array Obj) (x:Obj) (f:Obj->Obj),(a.push x).modify a.size f=a.push (f x):=by
   intro a x f;apply Array.ext
   ·simp
   ·intro i h1 h2
    simp only [Array.getElem_modify,Array.getElem_push];by_cases h:a.size=i
    ·subst h
     simp
    ·have hi:i<a.size:=by simp at h1;omega
     simp [h,hi]
  unfold World.freeze;rw [if_neg (by decide)]
  show ({ w.alloc (.cells hd4 5) with heap:=(w.heap.push (.cells hd4 5)).modify w.heap.size _ }:World)=_;rw [hm];rfl
 simp [convert,run_underlying underlying22,run_underlying underlying5,markStringish,hsh]
 exact hfr
theorem Gw.allocF {a w:World} (h:Gw a w) (c:Array Value) (t:TypeId) (z:Nat×Nat):Gw a (w.alloc (.cells c t z)):=⟨h.below.alloc h.below.size _⟩
theorem head_cells (w:World):∀ j u,(i8 headB)[j]?=some u->(w.alloc (.cells hd4 5 (4,5))).cell? ((⟨w.heap.size,0,none⟩:Addr).add j)=some u:=by
 intro j u hu;have hb:(w.alloc (.cells hd4 5 (4,5))).heap[w.heap.size]?=some (.cells hd4 5 (4,5)):=heap_alloc_new w _;rw [Addr.add_lit,Nat.zero_add];have e:(w.alloc (.cells hd4 5 (4,5))).cell? ⟨w.heap.size,j,none⟩=hd4[j]?:=by
  unfold World.cell?;simp only [hb];rfl
 rw [e,<-hu]
 match j with
 | 0=>rfl
 | 1=>rfl
 | 2=>rfl
 | 3=>rfl
 | j+4=>rfl
theorem step_full12 {P:Program} (w:World) {ops:Array Oper} {o:Oper} {a:Act} {K:Act->World->Prop} {Q:Exit->Act->World->Prop} {E:Prop} (hgd:o.guard=none) (s x:Operand) (t:TypeId)
  (ho:o.op=.call { callee:=.builtin .append,args:=#[s,x],argTypes:=#[t,t] })
  (e:TypeId) (i:TypeInfo) (z:Value) (ht:P.underlying t=some (.slice e)) (hi:P.info? e=some i) (hz:i.zero=some z)
  (hsize:i.size=1) (hby:i.bytes=1) (hzs:z.cells.size=1) (g n:Nat) (xs:List Value) (hn:xs.length=n) (hs:a.eval s=.slice (some ⟨g,0,none⟩) n n) (holds:∀ j u,xs[j]?=some u->w.cell? ((⟨g,0,none⟩:Addr).add j)=some u)
  (ad:Addr) (m c:Nat) (news:List Value) (hx:a.eval x=.slice (some ad) m c) (hl:news.length=m) (hnews:∀ j u,news[j]?=some u->w.cell? (ad.add j)=some u)
  (hm:0<m) (hsm:n+m<=1000)
  (h:∀ v' w',w'.ownsRow 0 e 1 v' (n+m) (xs++news)->Gw w w'->v'.ownBlock=some w.heap.size->K (a.put o.dst v') w') :
  if Region.wanted o (yielded ops a.tmps)=true then Oper.wp P o a w K Q else E:=by
 have hw:Region.wanted o (yielded ops a.tmps)=true:=by simp [Region.wanted,hgd]
 rw [if_pos hw];have hr:=run_append_grow (P:=P) w t o.type e i z ht hi hz ⟨g,0,none⟩ n n xs (by rw [hsize,hn,Nat.mul_one]) holds ad m c news (by rw [hsize,hl,Nat.mul_one]) hnews (by omega) (by omega) (growslice_fits (by omega) (by rw [hby];omega))
 have hge:=grownCap_ge w (n+m) n e;have hcm:grownCap w (n+m) n e<=maxLen:=grownCap_le_maxLen w (n+m) n e (by simp only [maxLen];omega)
 unfold Oper.wp execOp;simp only [ho,resolve,invoke,builtin,Sem.run_bind,Sem.run_pure,Result.andThen_ok,List.map_toArray,List.map_cons,List.map_nil,hs,hx,hr];refine h _ _ ⟨by rw [List.length_append,hn,hl,Nat.mul_one],.inr ⟨w.heap.size,_,_,rfl,Nat.zero_le _,heap_alloc_new w.drew _,hge,hcm,?_,?_⟩⟩ (((Gw.refl w).drew).alloc _ _) rfl
 ·simp only [Array.size_append,List.size_toArray,size_zeroCells,hzs,hn,hl]
  omega
 ·simp only [Array.toList_append,List.append_assoc]
  rw [<-List.append_assoc];have:(xs++news).length=(n+m)*1:=by rw [List.length_append,hn,hl,Nat.mul_one]
  rw [<-this];exact List.take_left
structure Wr0 (W:World) (p g:Nat):Prop where
 box:W.heap[p]?=some (.cells #[.slice (some ⟨g,0,none⟩) 4 4] 172 (0,0))
 row:∀ j u,(i8 headB)[j]?=some u->W.cell? ((⟨g,0,none⟩:Addr).add j)=some u
 gl:g<W.heap.size
theorem wr0_new (w:World):Wr0 ((w.alloc (.cells hd4 5 (4,5))).alloc (.cells #[.slice (some ⟨w.heap.size,0,none⟩) 4 4] 172)) (w.heap.size+1) w.heap.size:=by
 refine ⟨?_,fun j u hu=>?_,by simp;omega⟩
 ·have:=heap_alloc_new (w.alloc (.cells hd4 5 (4,5))) (.cells #[.slice (some ⟨w.heap.size,0,none⟩) 4 4] 172)
  rw [show (w.alloc (.cells hd4 5 (4,5))).heap.size=w.heap.size+1 by simp] at this
  exact this
 ·have e:=head_cells w j u hu
  rw [Addr.add_lit] at e ⊢;exact (((Gw.refl _).alloc _ _).cell _ _ (by simp)).trans e
theorem Wr0.put {W W1 W2:World} {p g:Nat} {m:List Int} {v':Value} (h:Wr0 W p g) (g1:Gw W W1) (r1:W2.ownsRow 0 5 1 v' (headB.length+m.length) (i8 headB++i8 m)) (r2:Gw W1 W2) (r4:v'.ownBlock=some W1.heap.size) :
  WStep W (W2.setCell ⟨p,0,none⟩ v') p (fun q=>q=p) (headB++m):=by
 have pl:p<W.heap.size:=(Array.getElem?_eq_some_iff.1 h.box).1;obtain ⟨ao,c,rfl⟩:=own_form r1;rw [<-List.length_append] at r1 r4 ⊢;have np:∀ q,(Value.slice ao (headB++m).length c).ownBlock=some q->q≠p:=fun q hq=>by
  rw [r4] at hq;cases hq;have:=g1.size;omega
 have b2:W2.heap[p]?=_:=((g1.trans r2).below.block p pl).trans h.box;refine ⟨fun q=>q=p\/(Value.slice ao (headB++m).length c).ownBlock=some q,⟨ao,c,by simp [World.setCell,Array.getElem?_modify,b2],?_,np,fun q=>Iff.rfl⟩,((g1.trans r2).gs (fun q=>q=p)).set (q:=p) rfl _ _,?_⟩
 ·have:=own_kept (w':=W2.setCell ⟨p,0,none⟩ (.slice ao (headB++m).length c)) r1 fun q hq=>Go.Deep.blk_setCell_other _ _ _ _ (np q hq)
  rw [<-i8_app] at this;exact this
 ·rintro q (rfl | e)
  ·exact .inl rfl
  ·rw [r4] at e
   cases e
   exact .inr g1.size
theorem wnumber0 {W:World} {p g:Nat} (h:Wr0 W p g) (x:Int) (x0:0<=x) (x1:x<18446744073709551616) :
  Calls prog 140 #[.pointer (some ⟨p,0,none⟩),.int .u64 x] W fun e W'=>e=.returned (.tuple #[])/\WStep W W' p (fun q=>q=p) (headB++num8 x):=by
 have HR:Hid (Wr0 W p g):=h;obtain ⟨c0,f0⟩:=rd_cell h.box;have pl:p<W.heap.size:=(Array.getElem?_eq_some_iff.1 h.box).1;obtain ⟨ii,hii,iz,is,iby⟩:=info_parts info_b;have PU:Hid (∀ W1,Calls prog 139 #[.slice none 0 0,.int .u64 x] W1 fun e w'=>(∃ b,e=.returned (.slice (some ⟨b,0,none⟩) (0+8) (0+8))/\W1.heap.size<=b/\w'.rowIs b 5 (0+8) (fun i=>.int .u8 (cat (fun _=>0) 0 (fun i=>byt x (7-i)) i)))/\Gw W1 w'):=fun W1=>xput_any none 0 0 (fun _=>0) x x0 x1 (by omega) W1 (bs_nil _ _ _)
 have KO:Hid (∀ w4,Gw W w4->∀ j u,(i8 headB)[j]?=some u->w4.cell? ((⟨g,0,none⟩:Addr).add j)=some u):=fun w4 g4 j u hu=>by
  have:=HR.out.row j u hu
  rw [Addr.add_lit] at this ⊢;exact (g4.cell _ _ HR.out.gl).trans this
 have FIN:Hid (∀ w4 v' w5,Gw W w4->w5.ownsRow 0 5 1 v' (4+8) (i8 headB++i8 (num8 x))->Gw w4 w5->v'.ownBlock=some w4.heap.size->(w5.cell? ⟨p,0,none⟩=some (.slice (some ⟨g,0,none⟩) 4 4)/\w5.frozen? ⟨p,0,none⟩=false)/\WStep W (w5.setCell ⟨p,0,none⟩ v') p (fun q=>q=p) (headB++num8 x)):=fun w4 v' w5 g4 r1 r2 r4 =>
  ⟨rd_cell (((g4.trans r2).below.block p pl).trans HR.out.box),Wr0.put HR.out g4 (by rw [num8_len];exact r1) r2 r4⟩
 clear h;go_enter func140,ntmps140;go_wp2_with fail;go_region_law (first
  | (go_simp;refine (PU.out _).mono ?_;rintro e w4 ⟨⟨b,rfl,hb,hR4⟩,g4⟩;have C4:=(g4.cell p 0 pl).trans c0;have NW:Hid (∀ j u,(i8 (num8 x))[j]?=some u->w4.cell? ((⟨b,0,none⟩:Addr).add j)=some u):=num8_row hR4;have G4:Hid (Gw W w4):=((Gw.refl W).drew).trans g4;clear g4 hR4 hb)
  | (refine step_full12 _ rfl (.tmp 8) (.tmp 10) 22 rfl 5 ii (.int .u8 0) underlying22 hii iz is iby rfl g 4 (i8 headB) rfl (by simp [Act.eval]) (KO.out _ G4.out) ⟨b,0,none⟩ 8 8 (i8 (num8 x)) (by simp [Act.eval]) (by rw [i8_len,num8_len]) NW.out (by omega) (by omega) ?_;intro v' w5 r1 r2 r4;obtain ⟨ao',c',rfl⟩:=own_form r1;obtain ⟨⟨C5,F5⟩,WS'⟩:=FIN.out w4 _ w5 G4.out r1 r2 r4;have WS:Hid (WStep W (w5.setCell ⟨p,0,none⟩ (.slice ao' (4+8) c')) p (fun q=>q=p) (headB++num8 x)):=WS';clear r1 r2 r4 WS'))
 all_goals go_wp2_with fail
 all_goals go_end0
 all_goals exact ⟨rfl,WS.out⟩
theorem wcount0 {W:World} {p g:Nat} (h:Wr0 W p g) (x:Int) (x0:0<=x) (x1:x<9223372036854775808) :
  Calls prog 97 #[.pointer (some ⟨p,0,none⟩),.int .i64 x] W fun e W'=>e=.returned (.tuple #[])/\WStep W W' p (fun q=>q=p) (headB++num8 x):=by
 have NU:Hid (Calls prog 140 #[.pointer (some ⟨p,0,none⟩),.int .u64 x] W fun e W'=>e=.returned (.tuple #[])/\WStep W W' p (fun q=>q=p) (headB++num8 x)):=wnumber0 h x x0 (by omega)
 clear h;go_enter func97,ntmps97;go_wp2_with fail;refine NU.out.mono ?_;rintro e w2 ⟨rfl,R⟩;have RR:Hid (WStep W w2 p (fun q=>q=p) (headB++num8 x)):=R
 clear R NU;go_wp2_with fail;go_end0;exact ⟨rfl,RR.out⟩
def PW (w:World) (p2:Nat) (W:World) (l:List Int):Prop:=∃ S1,Wr W p2 S1 l/\(∀ q,S1 q->w.heap.size<=q)/\Gw w W
theorem PW.gw {w:World} {p2:Nat} {W W':World} {l:List Int} (h:PW w p2 W l) (g:Gw W W'):PW w p2 W' l:=by
 obtain ⟨S1,a,b,c⟩:=h;exact ⟨S1,a.gw g,b,c.trans g⟩
theorem PW.start {w w0 w2:World} {p2:Nat} {l:List Int} (hp:w.heap.size<=p2) (g:Gw w w0) (h:WStep w0 w2 p2 (fun q=>q=p2) l):PW w p2 w2 l:=by
 obtain ⟨S1,a,b,c⟩:=h;refine ⟨S1,a,fun q hq=>?_,?_⟩
 ·rcases c q hq with x | x
  ·have:q=p2:=x
   omega
  ·exact Nat.le_trans g.size x
 ·exact ⟨⟨b.os.trans g.below.os,b.tape.trans g.below.tape,b.output.trans g.below.output,Nat.le_trans g.size b.size,fun q hq=>(b.block q (Nat.lt_of_lt_of_le hq g.size) (fun x=>by have:q=p2:=x;omega)).trans (g.below.block q hq)⟩⟩
theorem PWr.pw {w w4:World} {p2 base:Nat} {W:World} {l:List Int} (h:PWr w w4 p2 base W l):PW w p2 W l:=by
 obtain ⟨S1,a,b,c,d,e⟩:=h;exact ⟨S1,a,b,e⟩
theorem PW.pwr {w W3 w4:World} {p2:Nat} {l:List Int} (h:PW w p2 W3 l) (g4:Gw W3 w4):PWr w w4 p2 W3.heap.size w4 l:=by
 obtain ⟨S1,a,b,c⟩:=h;exact PWr.start a b c g4
theorem PW.count {w:World} {p2:Nat} {W:World} {l:List Int} (h:PW w p2 W l) (x:Int) (x0:0<=x) (x1:x<9223372036854775808) (hl:l.length<=140737488355000) :
  Calls prog 97 #[.pointer (some ⟨p2,0,none⟩),.int .i64 x] W fun e W'=>e=.returned (.tuple #[])/\PW w p2 W' (l++num8 x):=by
 obtain ⟨S1,a,b,c⟩:=h;refine (wcount a x x0 x1 hl).mono fun e w' ⟨r,t⟩=>⟨r,?_⟩
 exact (PWr.step (base:=W.heap.size) (w4:=W) a b (fun q _ hq=>by omega) (Nat.le_refl _) c t).pw
theorem PWr.entry {w w4:World} {p2 base:Nat} {W:World} {l:List Int} (h:PWr w w4 p2 base W l) (k v:Int) (g:Bool) (k0:0<=k) (k1:k<18446744073709551616) (v0:0<=v) (v1:v<18446744073709551616) (hl:l.length<=140737488354000) :
  Calls prog 100 #[.pointer (some ⟨p2,0,none⟩),.agg #[.int .u64 k,.int .u64 v,.bool g]] W fun e W'=>e=.returned (.tuple #[])/\PWr w w4 p2 base W' (l++entB k v g):=by
 obtain ⟨S1,a,b,c,d,e⟩:=h;exact (wentry a k v g k0 k1 v0 v1 hl).mono fun e w' ⟨r,t⟩=>⟨r,PWr.step a b c d (by assumption) t⟩
theorem PWr.level {w w4:World} {p2 base:Nat} {W:World} {l:List Int} (h:PWr w w4 p2 base W l) (ao:Option Addr) (cc:Nat) (lv:List Sg) (hg:GS W ao lv) (af:∀ a,ao=some a->base<=a.block/\a.block<w4.heap.size) (te:∀ s∈lv,0<=s.te) (hv:lv.length<=2000000) (hl:l.length<=140000000000000) :
  Calls prog 103 #[.pointer (some ⟨p2,0,none⟩),.slice ao lv.length cc] W fun e W'=>e=.returned (.tuple #[])/\PWr w w4 p2 base W' (l++levB lv):=by
 obtain ⟨S1,a,b,c,d,e⟩:=h;exact (wlevel a ao cc lv hg (fun ad ha _=>(c _ (af ad ha).1 (af ad ha).2).2) te hv hl).mono fun e w' ⟨r,t⟩=>⟨r,PWr.step a b c d (by assumption) t⟩
theorem PWr.kept {w w4:World} {p2 base:Nat} {W:World} {l:List Int} (h:PWr w w4 p2 base W l):w4.heap.size<=W.heap.size/\(∀ q,base<=q->q<w4.heap.size->W.heap[q]?=w4.heap[q]?)/\Gw w W:=by
 obtain ⟨S1,a,b,c,d,e⟩:=h;exact ⟨d,fun q x y=>(c q x y).1,e⟩
theorem jput {HR:World->Nat->(Nat->Prop)->Int->(Nat->Int)->(Nat->Int)->(Nat->Bool)->Nat->List (List Sg)->Prop} (H:RunC HR) {w:World} {p:Nat} {S:Nat->Prop} {eps:Int} {k v:Nat->Int} {g:Nat->Bool} {n:Nat} {L:List (List Sg)} (h:HR w p S eps k v g n L)
  (bd:∀ i,i<n->(0<=k i/\k i<18446744073709551616)/\(0<=v i/\v i<18446744073709551616)) (te:∀ l∈L,∀ s∈l,0<=s.te) :
  Calls prog 59 #[.pointer (some ⟨p,0,none⟩)] w fun e w'=>(∃ bo c,e=.returned (.slice bo (putB eps k v g n L).length c)/\BL w' w.heap.size (.slice bo (putB eps k v g n L).length c) (putB eps k v g n L))/\Gw w w':=by
 have HH:Hid (RunC HR):=H;have R2:Hid (HR w p S eps k v g n L):=h;have rdy:=H.ready h;have e0:=rdy.e0;have e1:=rdy.e1;have n1:=rdy.n1;have SHO:Hid (Short L):=rdy.sh;have BD:Hid (∀ i,i<n->(0<=k i/\k i<18446744073709551616)/\(0<=v i/\v i<18446744073709551616)):=bd;have TE:Hid (∀ l∈L,∀ s∈l,0<=s.te):=te;obtain ⟨pp,Sp,cp0,hp,sub⟩:=H.pile h;have pl:p<w.heap.size:=H.lt h p (H.own h);obtain ⟨ln,hln⟩:∃ ln,L.length=ln:=⟨_,rfl⟩;have LN:Hid (L.length=ln):=hln;have s1:ln<=2000000:=hln▸rdy.sh.1;have KP:Hid (∀ W,Gw w W->HPile W pp Sp eps k n L):=fun W gg=>hp.keep fun q hq=>gg.below.block q (hp.lt q hq)
 have EP:Hid (∀ W,Gw w W->Calls prog 98 #[.pointer (some ⟨pp,0,none⟩)] W fun e w'=>e=.returned (.int .i64 eps)/\w'=W):=fun W gg=>pl_eps (KP.out W gg)
 have HT:Hid (∀ W,Gw w W->Calls prog 101 #[.pointer (some ⟨pp,0,none⟩)] W fun e w'=>e=.returned (.int .i64 (ln:Int))/\w'=W):=fun W gg=>by
  have:=pl_height (KP.out W gg)
  rw [LN.out] at this;exact this
 have LE:Hid (∀ W,Gw w W->Calls prog 99 #[.pointer (some ⟨p,0,none⟩)] W fun e w'=>e=.returned (.int .i64 (n:Int))/\Gw W w'):=fun W gg=>HH.out.len (HH.out.gw R2.out gg)
 have LI:Hid (∀ W,Gw w W->Calls prog 82 #[.pointer (some ⟨p,0,none⟩)] W fun e w'=>(∃ bo c,e=.returned (.slice bo n c)/\ES w' bo n k v g/\∀ a,bo=some a->W.heap.size<=a.block)/\Gw W w'):=fun W gg=>(HH.out.list (HH.out.gw R2.out gg)).mono fun e w' ⟨⟨bo,c,a,er⟩,b⟩=>⟨⟨bo,c,a,er_es er BD.out,fun ad ea=>by
  obtain ⟨bo',c',e',_,x⟩:=er_form er;cases e';exact (x ad ea).1⟩,b⟩
 have LV:Hid (∀ W,Gw w W->Calls prog 102 #[.pointer (some ⟨p,0,none⟩)] W fun e w'=>(∃ mo mc,e=.returned (.slice mo ln mc)/\VSf w' W.heap.size mo L)/\Gw W w'):=fun W gg=>(HH.out.levels (HH.out.gw R2.out gg)).mono fun e w' ⟨⟨mo,mc,vals,a,ow,lok,hl⟩,b⟩=>⟨⟨mo,mc,by rw [<-LN.out];exact a,ow.vsf lok⟩,b⟩
 have G0:Hid (Gw w ((w.alloc (.cells hd4 5 (4,5))).alloc (.cells #[.slice (some ⟨w.heap.size,0,none⟩) 4 4] 172))):=((Gw.refl w).allocF _ _ _).alloc _ _;have P0:Hid (Wr0 ((w.alloc (.cells hd4 5 (4,5))).alloc (.cells #[.slice (some ⟨w.heap.size,0,none⟩) 4 4] 172)) (w.heap.size+1) w.heap.size):=wr0_new w;clear h H rdy hp hln bd te sub;have CP:Hid (∀ W,Gw w W->W.cell? ⟨p,0,none⟩=some (.pointer (some ⟨pp,0,none⟩))/\p<W.heap.size):=fun W gg=>⟨(gg.cell _ _ pl).trans cp0,Nat.lt_of_lt_of_le pl gg.size⟩
 clear cp0 pl;have hcv:=conv_head w;go_enter func59,ntmps59;obtain ⟨c0,l0⟩:=CP.out _ G0.out;go_wp2_with fail;generalize ((w.alloc (.cells hd4 5 (4,5))).alloc (.cells #[.slice (some ⟨w.heap.size,0,none⟩) 4 4] 172))=w0 at G0 P0 c0 l0 ⊢;refine (EP.out _ G0.out).mono ?_;rintro e w1 ⟨rfl,hw⟩;subst hw;obtain ⟨p2,hp2⟩:∃ p2,w.heap.size+1=p2:=⟨_,rfl⟩;rw [hp2] at P0;rw [hp2];have PG:Hid (w.heap.size<=p2):=by show _<=_;omega
 clear hp2;go_wp2_with fail;refine (wcount0 P0.out eps (by omega) (by omega)).mono ?_
 rintro e w2 ⟨rfl,R⟩;have P2:Hid (PW w p2 w2 (headB++num8 eps)):=PW.start PG.out G0.out R;clear R P0 G0 c0 l0;have G2:Hid (Gw w w2):=by obtain ⟨_,_,_,x⟩:=P2.out;exact x
 obtain ⟨c0,l0⟩:=CP.out _ G2.out;go_wp2_with fail;refine (LE.out _ G2.out).mono ?_;rintro e w3 ⟨rfl,g3⟩;have P3:Hid (PW w p2 w3 (headB++num8 eps)):=P2.out.gw g3;clear g3 P2 G2 c0 l0;go_wp2_with fail;refine (P3.out.count (n:Int) (by omega) (by omega) (by rw [List.length_append,num8_len];simp [headB])).mono ?_
 rintro e w4 ⟨rfl,P4'⟩;have P4:Hid (PW w p2 w4 (headB++num8 eps++num8 (n:Int))):=P4';have G4:Hid (Gw w w4):=by obtain ⟨_,_,_,x⟩:=P4';exact x
 clear P4' P3;go_wp2_with fail;refine (LI.out _ G4.out).mono ?_;rintro e w5 ⟨⟨eo,ec,rfl,es5,eb5⟩,g5⟩;have P5:Hid (PWr w w5 p2 w4.heap.size w5 (headB++num8 eps++num8 (n:Int)++entsB k v g 0)):=by
  have:=P4.out.pwr g5
  show PWr _ _ _ _ _ _;simpa [entsB] using this
 have E5:Hid (ES w5 eo n k v g/\∀ a,eo=some a->w4.heap.size<=a.block):=⟨es5,eb5⟩;clear P4 G4 es5 eb5 g5;obtain ⟨x0,hx0⟩:∃ x0,headB++num8 eps++num8 (n:Int)=x0:=⟨_,rfl⟩;have X0:Hid (headB++num8 eps++num8 (n:Int)=x0):=hx0;have xl:x0.length=20:=by rw [<-hx0,List.length_append,List.length_append,num8_len,num8_len];rfl
 rw [hx0] at P5;clear hx0;go_wp2_with fail;go_loopg [23] n (fun gg s23 wr=>∃ i:Nat,s23=.int .i64 i/\i<=n/\n-i<=gg/\Hid (PWr w w5 p2 w4.heap.size wr (x0++entsB k v g i)))
 case atStart=>exact ⟨0,rfl,Nat.zero_le _,by omega,P5⟩
 case round =>
  clear P5;obtain ⟨i,rfl,h1,h2,PI⟩:=hrel;by_cases hlt:i<n
  ·obtain ⟨kk1,kk2,kk3⟩:=PI.out.kept
   obtain ⟨eb,ef,rfl,heb,hec⟩:=(E5.out.1.kept E5.out.2 kk1 kk2).cells (by omega)
   obtain ⟨d1,d2,d3⟩:=hec i hlt;obtain ⟨⟨k0,k1⟩,v0,v1⟩:=BD.out i hlt;have EB:Hid (entsB k v g (i+1)=entsB k v g i++entB (k i) (v i) (g i)):=entsB_succ k v g i;have el:=entsB_len_le k v g i;generalize k i=ki at d1 k0 k1 EB;generalize v i=vi at d2 v0 v1 EB;generalize g i=gi at d3 EB;have PA:Hid (PWr w w5 p2 w4.heap.size (wr.alloc (.cells #[.int .u64 ki,.int .u64 vi,.bool gi] 81)) (x0++entsB k v g i)):=PI.out.gw ((Gw.refl wr).alloc _ _);clear hec kk1 kk2 kk3 PI;go_wp2_with fail;refine (PA.out.entry ki vi gi k0 k1 v0 v1 (by rw [List.length_append];omega)).mono ?_
   rintro e w7 ⟨rfl,P7'⟩;have P7:Hid (PWr w w5 p2 w4.heap.size w7 (x0++entsB k v g (i+1))):=by
    show PWr _ _ _ _ _ _;rw [EB.out,<-List.append_assoc];exact P7'
   clear P7' PA;go_wp2_with fail;go_roundg (n-(i+1))
   case measure=>omega
   case rel=>exact ⟨i+1,by go_num,by omega,Nat.le_refl _,P7⟩
  ·have ei:i=n:=by omega
   subst ei;have P8:Hid (PW w p2 wr (x0++entsB k v g i)):=PI.out.pw;have G8:Hid (Gw w wr):=PI.out.kept.2.2;obtain ⟨c0,l0⟩:=CP.out _ G8.out;have el:=entsB_len_le k v g i;clear PI E5;go_wp2_with fail;refine (HT.out _ G8.out).mono ?_;rintro e w8 ⟨rfl,hw⟩;subst hw;go_wp2_with fail;refine (P8.out.count (ln:Int) (by omega) (by omega) (by rw [List.length_append];omega)).mono ?_
   rintro e w9 ⟨rfl,P9'⟩;have P9:Hid (PW w p2 w9 (x0++entsB k v g i++num8 (ln:Int))):=P9';have G9:Hid (Gw w w9):=by obtain ⟨_,_,_,x⟩:=P9';exact x
   clear P9' P8 G8 c0 l0;go_wp2_with fail;refine (LV.out _ G9.out).mono ?_;rintro e wA ⟨⟨mo,mc,rfl,vs⟩,gA⟩;have PA:Hid (PWr w wA p2 w9.heap.size wA (x0++entsB k v g i++num8 (ln:Int)++levsB (L.take 0))):=by
    have:=P9.out.pwr gA
    show PWr _ _ _ _ _ _;simpa [levsB] using this
   have VA:Hid (VSf wA w9.heap.size mo L):=vs;clear P9 G9 vs gA;obtain ⟨x1,hx1⟩:∃ x1,x0++entsB k v g i++num8 (ln:Int)=x1:=⟨_,rfl⟩;have X1:Hid (x0++entsB k v g i++num8 (ln:Int)=x1):=hx1;have xl1:x1.length<=28+17*i:=by rw [<-hx1,List.length_append,List.length_append,num8_len];omega
   rw [hx1] at PA;clear hx1;go_wp2_with fail;go_loopg [39] ln (fun gg s39 wr=>∃ j:Nat,s39=.int .i64 j/\j<=ln/\ln-j<=gg/\Hid (PWr w wA p2 w9.heap.size wr (x1++levsB (L.take j))))
   case atStart=>exact ⟨0,rfl,Nat.zero_le _,by omega,PA⟩
   case round =>
    clear PA;obtain ⟨j,rfl,j1,j2,PJ⟩:=hrel;by_cases hlt:j<ln
    ·obtain ⟨kk1,kk2,kk3⟩:=PJ.out.kept
     obtain ⟨mb,mf,rfl,hmb,hmc⟩:=VA.out.cells (by rw [LN.out];omega)
     obtain ⟨bo,bc,q1',q2,q3,q4',q5⟩:=hmc j (by rw [LN.out];exact hlt)
     have q1:=(World.cell?_of_block (a:=⟨mb,mf+j,none⟩) (kk2 mb hmb.1 hmb.2)).trans q1';have q4:GS wr bo (L.getD j []):=gs_kept q4' (fun a ha=>kk2 _ (q5 a ha).1 (q5 a ha).2) kk1
     have hjL:j<L.length:=by rw [LN.out];exact hlt
     have TK:L.take (j+1)=L.take j++[L.getD j []]:=by
      rw [List.take_add_one,List.getElem?_eq_getElem hjL];simp [List.getD,hjL]
     have lm:L.getD j []∈L:=by
      have:L.getD j []=L[j]:=by simp [List.getD,hjL]
      rw [this];exact List.getElem_mem hjL
     have te:=TE.out _ lm;have sh:=SHO.out.2 j hjL;have ll:(levsB (L.take j)).length<=j*48000008:=by
      have:=levsB_len_le (L.take j) (fun l hl=>by
       obtain ⟨t,ht,e⟩:=List.mem_iff_getElem.1 (List.mem_of_mem_take hl);have:=SHO.out.2 t ht;simp only [List.getD,List.getElem?_eq_getElem ht,Option.getD_some] at this;rw [<-e];exact this)
      rw [List.length_take,LN.out,Nat.min_eq_left (by omega)] at this
      exact this
     have CL:Hid (Calls prog 103 #[.pointer (some ⟨p2,0,none⟩),.slice bo (L.getD j []).length bc] wr fun e W'=>e=.returned (.tuple #[])/\PWr w wA p2 w9.heap.size W' (x1++levsB (L.take (j+1)))):=(PJ.out.level bo bc (L.getD j []) q4 q5 te sh (by rw [List.length_append];omega)).mono fun e w' ⟨a,b⟩=>⟨a,by
      rw [TK,levsB,List.flatMap_append,<-List.append_assoc];simpa [levsB] using b⟩
     obtain ⟨sl,hsl⟩:∃ sl,(L.getD j []).length=sl:=⟨_,rfl⟩;rw [hsl] at CL q1;clear hmc q1' q2 q3 q4 q4' q5 PJ TK lm te sh ll hsl kk1 kk2 kk3;go_wp2_with fail;refine CL.out.mono ?_;rintro e w7 ⟨rfl,P7'⟩;have P7:Hid (PWr w wA p2 w9.heap.size w7 (x1++levsB (L.take (j+1)))):=P7';clear P7' CL;go_wp2_with fail;go_roundg (ln-(j+1))
     case measure=>omega
     case rel=>exact ⟨j+1,by go_num,by omega,Nat.le_refl _,P7⟩
    ·have ej:j=ln:=by omega
     subst ej;have PF:=PJ.out.pw;rw [List.take_of_length_le (by rw [LN.out];exact Nat.le_refl _)] at PF
     have ex:x1++levsB L=putB eps k v g i L:=by
      rw [<-X1.out,<-X0.out];unfold putB;rw [LN.out];simp [List.append_assoc]
     rw [ex] at PF;obtain ⟨S9,⟨vo,cap,b1,b2,b3,b4⟩,sub9,G9⟩:=PF;have RES:Hid (BL wr w.heap.size (.slice vo (putB eps k v g i L).length cap) (putB eps k v g i L)/\Gw w wr):=⟨own_up b2 fun q hq=>sub9 q ((b4 q).2 (.inr hq)),G9⟩
     obtain ⟨c0,f0⟩:=rd_cell b1;have pl:p2<wr.heap.size:=(Array.getElem?_eq_some_iff.1 b1).1;clear b1 b2 b3 b4 sub9 G9 PJ ex;obtain ⟨bl,hbl⟩:∃ bl,(putB eps k v g i L).length=bl:=⟨_,rfl⟩;have HB:Hid ((putB eps k v g i L).length=bl):=hbl;rw [hbl] at c0;clear hbl;go_wp2_with fail;go_ret;exact ⟨⟨vo,cap,by rw [HB.out];rfl,RES.out.1⟩,RES.out.2⟩
end Go.Proofs.YtpoohadckhphpaaGreat
namespace Go.Proofs.YtpoohadckhphpaaGreat
open Go.RowKit
attribute [local go_sem] run_store_float
def headT:List Int:=[73,78,84,49]
def WtR (W:World) (p:Nat) (S:Nat->Prop) (l:List Int) (vo:Option Addr) (cap:Nat):Prop :=
 W.heap[p]?=some (.cells #[.slice vo l.length cap] 69 (0,0))/\W.ownsRow 0 5 1 (.slice vo l.length cap) l.length (i8 l)/\(∀ q,(Value.slice vo l.length cap).ownBlock=some q->q≠p)/\∀ q,S q↔q=p\/(Value.slice vo l.length cap).ownBlock=some q
def Wt (W:World) (p:Nat) (S:Nat->Prop) (l:List Int):Prop:=∃ vo cap,WtR W p S l vo cap
def WtStep (W W':World) (p:Nat) (S:Nat->Prop) (l:List Int):Prop:=∃ S',Wt W' p S' l/\Gs S W W'/\∀ q,S' q->S q\/W.heap.size<=q
theorem Wt.lt {W:World} {p:Nat} {S:Nat->Prop} {l:List Int} (h:Wt W p S l):∀ q,S q->q<W.heap.size:=by
 obtain ⟨vo,cap,h1,h2,h3,h4⟩:=h;intro q hq;rcases (h4 q).1 hq with rfl | e
 ·exact (Array.getElem?_eq_some_iff.1 h1).1
 ·exact (World.ownsRow.lt h2 q e).2
theorem Wt.keep {W W':World} {p:Nat} {S:Nat->Prop} {l:List Int} (h:Wt W p S l) (k:∀ q,S q->W'.heap[q]?=W.heap[q]?):Wt W' p S l:=by
 obtain ⟨vo,cap,h1,h2,h3,h4⟩:=h;exact ⟨vo,cap,(k p ((h4 p).2 (.inl rfl))).trans h1,own_kept h2 fun q hq=>k q ((h4 q).2 (.inr hq)),h3,h4⟩
theorem Wt.gw {W W':World} {p:Nat} {S:Nat->Prop} {l:List Int} (h:Wt W p S l) (g:Gw W W'):Wt W' p S l:=h.keep fun q hq=>g.below.block q (h.lt q hq)
theorem WtStep.after {W W1 W2:World} {p:Nat} {S S1:Nat->Prop} {l:List Int} (g:Gs S W W1) (s:∀ q,S1 q->S q\/W.heap.size<=q) (h:WtStep W1 W2 p S1 l):WtStep W W2 p S l:=by
 obtain ⟨S',a,b,c⟩:=h;refine ⟨S',a,⟨b.os.trans g.os,b.tape.trans g.tape,b.output.trans g.output,Nat.le_trans g.size b.size,fun q hq hs=>(b.block q (Nat.lt_of_lt_of_le hq g.size) (fun x=>?_)).trans (g.block q hq hs)⟩,fun q hq=>?_⟩
 ·rcases s q x with y | y
  ·exact hs y
  ·omega
 ·rcases c q hq with x | x
  ·exact s q x
  ·exact .inr (Nat.le_trans g.size x)
theorem Wt.put {W W1 W2:World} {p:Nat} {S:Nat->Prop} {l m:List Int} {vo:Option Addr} {cap:Nat} {v':Value} (h:WtR W p S l vo cap) (g1:Gw W W1)
  (r1:W2.ownsRow 0 5 1 v' (l.length+m.length) (i8 l++i8 m)) (r2:W1.grownBy W2 (Value.slice vo l.length cap).ownBlock) (r4:v'.ownBlock=(Value.slice vo l.length cap).ownBlock\/v'.ownBlock=some W1.heap.size) :
  WtStep W (W2.setCell ⟨p,0,none⟩ v') p S (l++m):=by
 obtain ⟨h1,h2,h3,h4⟩:=h;have pl:p<W.heap.size:=(Array.getElem?_eq_some_iff.1 h1).1;have FM:∃ ao' c,v'=.slice ao' (l++m).length c:=by
  rw [List.length_append];rcases r1.2 with ⟨e,z⟩ | ⟨g,cap,cur,e,hb,hh,hc,_⟩
  ·exact ⟨none,0,by rw [e,z]⟩
  ·exact ⟨some ⟨g,0,none⟩,cap,e⟩
 obtain ⟨ao,c,rfl⟩:=FM;have np:∀ q,(Value.slice ao (l++m).length c).ownBlock=some q->q≠p:=fun q hq=>by
  rcases r4 with e | e
  ·exact h3 q (e▸hq)
  ·rw [e] at hq
   cases hq
   have:=g1.size
   omega
 have b2:W2.heap[p]?=some (.cells #[.slice vo l.length cap] 69 (0,0)):=(r2.block p (Nat.lt_of_lt_of_le pl g1.size) (fun e=>h3 p e.symm rfl)).trans ((g1.below.block p pl).trans h1)
 refine ⟨fun q=>q=p\/(Value.slice ao (l++m).length c).ownBlock=some q,⟨ao,c,by simp [World.setCell,Array.getElem?_modify,b2],?_,np,fun q=>Iff.rfl⟩,?_,?_⟩
 ·have:=own_kept (w':=W2.setCell ⟨p,0,none⟩ (.slice ao (l++m).length c)) r1 fun q hq=>Go.Deep.blk_setCell_other _ _ _ _ (np q hq)
  rw [<-i8_app,<-List.length_append] at this;exact this
 ·exact ((g1.gs S).grown r2 fun k hk=>(h4 k).2 (.inr hk)).set ((h4 p).2 (.inl rfl)) _ _
 ·rintro q (rfl | e)
  ·exact .inl ((h4 _).2 (.inl rfl))
  ·rcases r4 with x | x
   ·exact .inl ((h4 q).2 (.inr (x▸e)))
   ·rw [x] at e
    cases e
    exact .inr g1.size
theorem tnumber {W:World} {p:Nat} {S:Nat->Prop} {l:List Int} (h:Wt W p S l) (x:Int) (x0:0<=x) (x1:x<18446744073709551616) (hl:l.length<=140737488355000) :
  Calls prog 95 #[.pointer (some ⟨p,0,none⟩),.int .u64 x] W fun e W'=>e=.returned (.tuple #[])/\WtStep W W' p S (l++num8 x):=by
 obtain ⟨vo,cap,hR⟩:=h;have HR:Hid (WtR W p S l vo cap):=hR;obtain ⟨c0,f0⟩:=rd_cell hR.1;have pl:p<W.heap.size:=(Array.getElem?_eq_some_iff.1 hR.1).1;obtain ⟨ii,hii,iz,is,iby⟩:=info_parts info_b;have PU:Hid (∀ W1,Calls prog 139 #[.slice none 0 0,.int .u64 x] W1 fun e w'=>(∃ b,e=.returned (.slice (some ⟨b,0,none⟩) (0+8) (0+8))/\W1.heap.size<=b/\w'.rowIs b 5 (0+8) (fun i=>.int .u8 (cat (fun _=>0) 0 (fun i=>byt x (7-i)) i)))/\Gw W1 w'):=fun W1=>xput_any none 0 0 (fun _=>0) x x0 x1 (by omega) W1 (bs_nil _ _ _)
 obtain ⟨n,hn⟩:∃ n,l.length=n:=⟨_,rfl⟩;have LN:Hid (l.length=n):=hn;rw [hn] at c0 hl;have KO:Hid (∀ w4,Gw W w4->w4.ownsRow 0 5 1 (.slice vo n cap) n (i8 l)):=fun w4 g4=>LN.out▸own_kept HR.out.2.1 (fun q hq=>g4.below.block q (World.ownsRow.lt HR.out.2.1 q hq).2)
 have FIN:Hid (∀ w4 v' w5,Gw W w4->w5.ownsRow 0 5 1 v' (n+8) (i8 l++i8 (num8 x))->w4.grownBy w5 (Value.slice vo n cap).ownBlock->(v'.ownBlock=(Value.slice vo n cap).ownBlock\/v'.ownBlock=some w4.heap.size)->(w5.cell? ⟨p,0,none⟩=some (.slice vo n cap)/\w5.frozen? ⟨p,0,none⟩=false)/\WtStep W (w5.setCell ⟨p,0,none⟩ v') p S (l++num8 x)):=fun w4 v' w5 g4 r1 r2 r4=>by
  have H:=HR.out;have e:=LN.out;subst e;exact ⟨rd_cell ((r2.block p (Nat.lt_of_lt_of_le pl g4.size) (fun e=>H.2.2.1 p e.symm rfl)).trans ((g4.below.block p pl).trans H.1)),Wt.put H g4 (by rw [num8_len];exact r1) r2 r4⟩
 clear hR hn;go_enter func95,ntmps95;go_wp2_with fail;go_region_law (first
  | (go_simp;refine (PU.out _).mono ?_;rintro e w4 ⟨⟨b,rfl,hb,hR4⟩,g4⟩;have C4:=(g4.cell p 0 pl).trans c0;have NW:Hid (∀ j u,(i8 (num8 x))[j]?=some u->w4.cell? ((⟨b,0,none⟩:Addr).add j)=some u):=num8_row hR4;have G4:Hid (Gw W w4):=((Gw.refl W).drew).trans g4;have OW:Hid (w4.ownsRow 0 5 1 (.slice vo n cap) n (i8 l)):=KO.out w4 G4.out;clear g4 hR4 hb)
  | (refine step_app12 _ rfl (.tmp 8) (.tmp 10) 22 rfl 0 5 ii (.int .u8 0) 1 1 underlying22 hii iz is iby rfl (by decide) (.slice vo n cap) n (i8 l) (by simp [Act.eval]) OW.out ⟨b,0,none⟩ 8 8 (i8 (num8 x)) (by simp [Act.eval]) (by rw [i8_len,num8_len]) NW.out (i8_one _) (by simp only [maxLen];omega) (by omega) (Nat.zero_le _) ?_;intro v' w5 r1 r2 r3 r4;obtain ⟨ao',c',rfl⟩:=own_form r1;obtain ⟨⟨C5,F5⟩,WS'⟩:=FIN.out w4 _ w5 G4.out r1 r2 r4;have WS:Hid (WtStep W (w5.setCell ⟨p,0,none⟩ (.slice ao' (n+8) c')) p S (l++num8 x)):=WS';clear r1 r2 r3 r4 WS'))
 all_goals go_wp2_with fail
 all_goals go_end0
 all_goals exact ⟨rfl,WS.out⟩
theorem tcount {W:World} {p:Nat} {S:Nat->Prop} {l:List Int} (h:Wt W p S l) (x:Int) (x0:0<=x) (x1:x<9223372036854775808) (hl:l.length<=140737488355000) :
  Calls prog 56 #[.pointer (some ⟨p,0,none⟩),.int .i64 x] W fun e W'=>e=.returned (.tuple #[])/\WtStep W W' p S (l++num8 x):=by
 have NU:Hid (Calls prog 95 #[.pointer (some ⟨p,0,none⟩),.int .u64 x] W fun e W'=>e=.returned (.tuple #[])/\WtStep W W' p S (l++num8 x)):=tnumber h x x0 (by omega) hl
 clear h hl;go_enter func56,ntmps56;go_wp2_with fail;refine NU.out.mono ?_;rintro e w2 ⟨rfl,R⟩;have RR:Hid (WtStep W w2 p S (l++num8 x)):=R;clear R NU;go_wp2_with fail;go_end0;exact ⟨rfl,RR.out⟩
theorem tentry {W:World} {p:Nat} {S:Nat->Prop} {l:List Int} (h:Wt W p S l) (k v:Int) (g:Bool) (k0:0<=k) (k1:k<18446744073709551616) (v0:0<=v) (v1:v<18446744073709551616) (hl:l.length<=140737488354000) :
  Calls prog 57 #[.pointer (some ⟨p,0,none⟩),.agg #[.int .u64 k,.int .u64 v,.bool g]] W fun e W'=>e=.returned (.tuple #[])/\WtStep W W' p S (l++entB k v g):=by
 have lt:=h.lt;have h1:=h.gw ((Gw.refl W).alloc #[.int .u64 k,.int .u64 v,.bool g] 81);have NU:Hid (Calls prog 95 #[.pointer (some ⟨p,0,none⟩),.int .u64 k] (W.alloc (.cells #[.int .u64 k,.int .u64 v,.bool g] 81)) fun e W'=>e=.returned (.tuple #[])/\WtStep W W' p S (l++num8 k)/\W'.heap[W.heap.size]?=some (.cells #[.int .u64 k,.int .u64 v,.bool g] 81 (0,0))):=(tnumber h1 k k0 k1 (by omega)).mono fun e w' ⟨a,S',b,c,d⟩=>⟨a,.after (((Gw.refl W).alloc _ _).gs S) (fun q hq=>.inl hq) ⟨S',b,c,d⟩,(c.block W.heap.size (by simp) (fun x=>by have:=lt _ x;omega)).trans (heap_alloc_new W _)⟩
 obtain ⟨ii,hii,iz,is,iby⟩:=info_parts info_b;have HL:Hid (l.length<=140737488354000):=hl;clear h h1 lt hl;go_enter func57,ntmps57;go_wp2_with fail;refine NU.out.mono ?_;rintro e w2 ⟨rfl,R,BX⟩;have RR:Hid (WtStep W w2 p S (l++num8 k)):=R;obtain ⟨S2,⟨vo,cap,hR⟩,G2,sub⟩:=R;have HR:Hid (WtR w2 p S2 (l++num8 k) vo cap):=hR;obtain ⟨c0,f0⟩:=rd_cell hR.1;have pl:p<w2.heap.size:=(Array.getElem?_eq_some_iff.1 hR.1).1;have e0:w2.cell? ⟨W.heap.size,1,none⟩=some (.int .u64 v):=by simp [World.cell?,BX]
 have e1:w2.cell? ⟨W.heap.size,2,none⟩=some (.bool g):=by simp [World.cell?,BX]
 have wl:W.heap.size<w2.heap.size:=(Array.getElem?_eq_some_iff.1 BX).1;have GS2:Hid (Gs S W w2/\∀ q,S2 q->S q\/W.heap.size<=q):=⟨G2,sub⟩;have WB:Hid (¬ S2 W.heap.size):=fun x=>by
  rcases (hR.2.2.2 _).1 x with y | y
  ·subst y
   rw [hR.1] at BX;cases BX
  ·have:=own_u8 hR.2.1 _ y
   obtain ⟨cc,hcc⟩:=this;rw [hcc] at BX;cases BX
 obtain ⟨n,hn⟩:∃ n,(l++num8 k).length=n:=⟨_,rfl⟩;have LN:Hid ((l++num8 k).length=n):=hn;have hl:n<=140737488354008:=by have:=HL.out;rw [<-hn,List.length_append,num8_len];omega
 rw [hn] at c0;have KO:Hid (∀ w4,Gw w2 w4->w4.ownsRow 0 5 1 (.slice vo n cap) n (i8 (l++num8 k))):=fun w4 g4=>LN.out▸own_kept HR.out.2.1 (fun q hq=>g4.below.block q (World.ownsRow.lt HR.out.2.1 q hq).2)
 have FIN:Hid (∀ y w4 v' w5,Gw w2 w4->w5.ownsRow 0 5 1 v' (n+1) (i8 (l++num8 k)++i8 [y])->w4.grownBy w5 (Value.slice vo n cap).ownBlock->(v'.ownBlock=(Value.slice vo n cap).ownBlock\/v'.ownBlock=some w4.heap.size)->(w5.cell? ⟨p,0,none⟩=some (.slice vo n cap)/\w5.frozen? ⟨p,0,none⟩=false)/\WtStep w2 (w5.setCell ⟨p,0,none⟩ v') p S2 (l++num8 k++[y])):=fun y w4 v' w5 g4 r1 r2 r4=>by
  have H:=HR.out;have e:=LN.out;subst e;exact ⟨rd_cell ((r2.block p (Nat.lt_of_lt_of_le pl g4.size) (fun e=>H.2.2.1 p e.symm rfl)).trans ((g4.below.block p pl).trans H.1)),Wt.put H g4 r1 r2 r4⟩
 clear NU hR hn G2 sub RR BX;cases g with
 | true =>
  go_wp2_with (at_builtin;refine wpList_append_own_at _ rfl _ _ 22 rfl 0 5 ii (.int .u8 0) 1 1 underlying22 hii iz is iby rfl (by decide) _ n _ rfl (KO.out _ ((Gw.refl w2).alloc _ _)) ⟨w2.heap.size,0,none⟩ 1 1 (i8 [1]) rfl rfl (cell_one_new w2 _ _) (i8_one _) (by simp only [maxLen];omega) (by omega) (Nat.zero_le _) ?_)
  intro v' w5 r1 r2 r3 r4;obtain ⟨ao',c',rfl⟩:=own_form r1;obtain ⟨⟨C5,F5⟩,WS'⟩:=FIN.out 1 _ _ w5 ((Gw.refl w2).alloc _ _) r1 r2 (by simpa using r4)
  have WS:Hid (WtStep w2 (w5.setCell ⟨p,0,none⟩ (.slice ao' (n+1) c')) p S2 (l++num8 k++[1])):=WS';clear r1 r2 r3 r4 WS';go_wp2_with fail;refine bodyPost_ret (v:=.tuple #[]) (by simp [results,results57,go_sem]) rfl ⟨rfl,?_⟩
  have:=WtStep.after GS2.out.1 GS2.out.2 WS.out
  rw [List.append_assoc] at this;exact this
 | false =>
  go_wp2_with (at_builtin;refine wpList_append_own_at _ rfl _ _ 22 rfl 0 5 ii (.int .u8 0) 1 1 underlying22 hii iz is iby rfl (by decide) _ n _ rfl (KO.out _ ((Gw.refl w2).alloc _ _)) ⟨w2.heap.size,0,none⟩ 1 1 (i8 [0]) rfl rfl (cell_one_new w2 _ _) (i8_one _) (by simp only [maxLen];omega) (by omega) (Nat.zero_le _) ?_)
  intro v' w5 r1 r2 r3 r4;obtain ⟨ao',c',rfl⟩:=own_form r1;obtain ⟨⟨C5,F5⟩,WS'⟩:=FIN.out 0 _ _ w5 ((Gw.refl w2).alloc _ _) r1 r2 (by simpa using r4)
  have WS:Hid (WtStep w2 (w5.setCell ⟨p,0,none⟩ (.slice ao' (n+1) c')) p S2 (l++num8 k++[0])):=WS';have e2:(w5.setCell ⟨p,0,none⟩ (.slice ao' (n+1) c')).cell? ⟨W.heap.size,1,none⟩=some (.int .u64 v):=by
   obtain ⟨S3,_,G3,_⟩:=WS';exact (World.cell?_of_block (a:=⟨W.heap.size,1,none⟩) (G3.block _ wl WB.out)).trans e0
  have NV:Hid (Calls prog 95 #[.pointer (some ⟨p,0,none⟩),.int .u64 v] (w5.setCell ⟨p,0,none⟩ (.slice ao' (n+1) c')) fun e W'=>e=.returned (.tuple #[])/\WtStep W W' p S (l++entB k v false)):=by
   obtain ⟨S3,h3,G3,sub3⟩:=WS';refine (tnumber h3 v v0 v1 (by rw [List.length_append,LN.out];simp;omega)).mono fun e w' ⟨a,b⟩=>⟨a,?_⟩
   have:=WtStep.after GS2.out.1 GS2.out.2 (WtStep.after G3 sub3 b)
   rw [List.append_assoc,List.append_assoc] at this;exact this
  clear r1 r2 r3 r4 WS' e0;go_wp2_with fail;refine NV.out.mono ?_;rintro e w6 ⟨rfl,R⟩;have RR:Hid (WtStep W w6 p S (l++entB k v false)):=R;clear R NV;go_wp2_with fail;go_end0;exact ⟨rfl,RR.out⟩
def PWt (w w4:World) (p2 base:Nat) (W:World) (l:List Int):Prop:=∃ S1,Wt W p2 S1 l/\(∀ q,S1 q->w.heap.size<=q)/\(∀ q,base<=q->q<w4.heap.size->W.heap[q]?=w4.heap[q]?/\¬ S1 q)/\w4.heap.size<=W.heap.size/\Gw w W
theorem PWt.step {w w4:World} {p2 base:Nat} {W W':World} {l l':List Int} {S1:Nat->Prop} (hw:Wt W p2 S1 l) (h1:∀ q,S1 q->w.heap.size<=q) (h2:∀ q,base<=q->q<w4.heap.size->W.heap[q]?=w4.heap[q]?/\¬ S1 q) (h3:w4.heap.size<=W.heap.size) (h4:Gw w W) (st:WtStep W W' p2 S1 l'):PWt w w4 p2 base W' l':=by
 obtain ⟨S2,a,b,c⟩:=st;refine ⟨S2,a,fun q hq=>?_,fun q hb hq=>⟨(b.block q (by omega) (h2 q hb hq).2).trans (h2 q hb hq).1,fun x=>?_⟩,Nat.le_trans h3 b.size,?_⟩
 ·rcases c q hq with x | x
  ·exact h1 q x
  ·exact Nat.le_trans h4.size x
 ·rcases c q x with y | y
  ·exact (h2 q hb hq).2 y
  ·omega
 ·exact ⟨⟨b.os.trans h4.below.os,b.tape.trans h4.below.tape,b.output.trans h4.below.output,Nat.le_trans h4.size b.size,fun q hq=>(b.block q (Nat.lt_of_lt_of_le hq h4.size) (fun x=>by have:=h1 q x;omega)).trans (h4.below.block q hq)⟩⟩
abbrev hdT4:Array Value:=#[.int .u8 73,.int .u8 78,.int .u8 84,.int .u8 49]
theorem conv_headT (w:World):(convert 22 22 (.slice (some ⟨w.heap.size,0,none⟩) 4 4)).run prog (w.alloc (.cells hdT4 5))=.ok (.slice (some ⟨w.heap.size,0,none⟩) 4 4) (w.alloc (.cells hdT4 5 (4,5))):=by
 have hsh:(w.alloc (.cells hdT4 5)).shape? w.heap.size=some (5,4):=by
  have:(w.alloc (.cells hdT4 5)).heap[w.heap.size]?=some (.cells hdT4 5):=heap_alloc_new w _
  unfold World.shape?;rw [this];rfl
 have hfr:(w.alloc (.cells hdT4 5)).freeze ⟨w.heap.size,4,none⟩ 1=w.alloc (.cells hdT4 5 (4,5)):=by
  have hm:∀ (a:Array Obj) (x:Obj) (f:Obj->Obj),(a.push x).modify a.size f=a.push (f x):=by
   intro a x f;apply Array.ext
   ·simp
   ·intro i h1 h2
    simp only [Array.getElem_modify,Array.getElem_push];by_cases h:a.size=i
    ·subst h
     simp
    ·have hi:i<a.size:=by simp at h1;omega
     simp [h,hi]
  unfold World.freeze;rw [if_neg (by decide)]
  show ({ w.alloc (.cells hdT4 5) with heap:=(w.heap.push (.cells hdT4 5)).modify w.heap.size _ }:World)=_;rw [hm];rfl
 simp [convert,run_underlying underlying22,run_underlying underlying5,markStringish,hsh]
 exact hfr
theorem head_cellsT (w:World):∀ j u,(i8 headT)[j]?=some u->(w.alloc (.cells hdT4 5 (4,5))).cell? ((⟨w.heap.size,0,none⟩:Addr).add j)=some u:=by
 intro j u hu;have hb:(w.alloc (.cells hdT4 5 (4,5))).heap[w.heap.size]?=some (.cells hdT4 5 (4,5)):=heap_alloc_new w _;rw [Addr.add_lit,Nat.zero_add];have e:(w.alloc (.cells hdT4 5 (4,5))).cell? ⟨w.heap.size,j,none⟩=hdT4[j]?:=by
  unfold World.cell?;simp only [hb];rfl
 rw [e,<-hu]
 match j with
 | 0=>rfl
 | 1=>rfl
 | 2=>rfl
 | 3=>rfl
 | j+4=>rfl
structure Wt0 (W:World) (p g:Nat):Prop where
 box:W.heap[p]?=some (.cells #[.slice (some ⟨g,0,none⟩) 4 4] 69 (0,0))
 row:∀ j u,(i8 headT)[j]?=some u->W.cell? ((⟨g,0,none⟩:Addr).add j)=some u
 gl:g<W.heap.size
theorem wt0_new (w:World):Wt0 ((w.alloc (.cells hdT4 5 (4,5))).alloc (.cells #[.slice (some ⟨w.heap.size,0,none⟩) 4 4] 69)) (w.heap.size+1) w.heap.size:=by
 refine ⟨?_,fun j u hu=>?_,by simp;omega⟩
 ·have:=heap_alloc_new (w.alloc (.cells hdT4 5 (4,5))) (.cells #[.slice (some ⟨w.heap.size,0,none⟩) 4 4] 69)
  rw [show (w.alloc (.cells hdT4 5 (4,5))).heap.size=w.heap.size+1 by simp] at this
  exact this
 ·have e:=head_cellsT w j u hu
  rw [Addr.add_lit] at e ⊢;exact (((Gw.refl _).alloc _ _).cell _ _ (by simp)).trans e
theorem Wt0.put {W W1 W2:World} {p g:Nat} {m:List Int} {v':Value} (h:Wt0 W p g) (g1:Gw W W1) (r1:W2.ownsRow 0 5 1 v' (headT.length+m.length) (i8 headT++i8 m)) (r2:Gw W1 W2) (r4:v'.ownBlock=some W1.heap.size) :
  WtStep W (W2.setCell ⟨p,0,none⟩ v') p (fun q=>q=p) (headT++m):=by
 have pl:p<W.heap.size:=(Array.getElem?_eq_some_iff.1 h.box).1;obtain ⟨ao,c,rfl⟩:=own_form r1;rw [<-List.length_append] at r1 r4 ⊢;have np:∀ q,(Value.slice ao (headT++m).length c).ownBlock=some q->q≠p:=fun q hq=>by
  rw [r4] at hq;cases hq;have:=g1.size;omega
 have b2:W2.heap[p]?=_:=((g1.trans r2).below.block p pl).trans h.box;refine ⟨fun q=>q=p\/(Value.slice ao (headT++m).length c).ownBlock=some q,⟨ao,c,by simp [World.setCell,Array.getElem?_modify,b2],?_,np,fun q=>Iff.rfl⟩,((g1.trans r2).gs (fun q=>q=p)).set (q:=p) rfl _ _,?_⟩
 ·have:=own_kept (w':=W2.setCell ⟨p,0,none⟩ (.slice ao (headT++m).length c)) r1 fun q hq=>Go.Deep.blk_setCell_other _ _ _ _ (np q hq)
  rw [<-i8_app] at this;exact this
 ·rintro q (rfl | e)
  ·exact .inl rfl
  ·rw [r4] at e
   cases e
   exact .inr g1.size
theorem tnumber0 {W:World} {p g:Nat} (h:Wt0 W p g) (x:Int) (x0:0<=x) (x1:x<18446744073709551616) :
  Calls prog 95 #[.pointer (some ⟨p,0,none⟩),.int .u64 x] W fun e W'=>e=.returned (.tuple #[])/\WtStep W W' p (fun q=>q=p) (headT++num8 x):=by
 have HR:Hid (Wt0 W p g):=h;obtain ⟨c0,f0⟩:=rd_cell h.box;have pl:p<W.heap.size:=(Array.getElem?_eq_some_iff.1 h.box).1;obtain ⟨ii,hii,iz,is,iby⟩:=info_parts info_b;have PU:Hid (∀ W1,Calls prog 139 #[.slice none 0 0,.int .u64 x] W1 fun e w'=>(∃ b,e=.returned (.slice (some ⟨b,0,none⟩) (0+8) (0+8))/\W1.heap.size<=b/\w'.rowIs b 5 (0+8) (fun i=>.int .u8 (cat (fun _=>0) 0 (fun i=>byt x (7-i)) i)))/\Gw W1 w'):=fun W1=>xput_any none 0 0 (fun _=>0) x x0 x1 (by omega) W1 (bs_nil _ _ _)
 have KO:Hid (∀ w4,Gw W w4->∀ j u,(i8 headT)[j]?=some u->w4.cell? ((⟨g,0,none⟩:Addr).add j)=some u):=fun w4 g4 j u hu=>by
  have:=HR.out.row j u hu
  rw [Addr.add_lit] at this ⊢;exact (g4.cell _ _ HR.out.gl).trans this
 have FIN:Hid (∀ w4 v' w5,Gw W w4->w5.ownsRow 0 5 1 v' (4+8) (i8 headT++i8 (num8 x))->Gw w4 w5->v'.ownBlock=some w4.heap.size->(w5.cell? ⟨p,0,none⟩=some (.slice (some ⟨g,0,none⟩) 4 4)/\w5.frozen? ⟨p,0,none⟩=false)/\WtStep W (w5.setCell ⟨p,0,none⟩ v') p (fun q=>q=p) (headT++num8 x)):=fun w4 v' w5 g4 r1 r2 r4 =>
  ⟨rd_cell (((g4.trans r2).below.block p pl).trans HR.out.box),Wt0.put HR.out g4 (by rw [num8_len];exact r1) r2 r4⟩
 clear h;go_enter func95,ntmps95;go_wp2_with fail;go_region_law (first
  | (go_simp;refine (PU.out _).mono ?_;rintro e w4 ⟨⟨b,rfl,hb,hR4⟩,g4⟩;have C4:=(g4.cell p 0 pl).trans c0;have NW:Hid (∀ j u,(i8 (num8 x))[j]?=some u->w4.cell? ((⟨b,0,none⟩:Addr).add j)=some u):=num8_row hR4;have G4:Hid (Gw W w4):=((Gw.refl W).drew).trans g4;clear g4 hR4 hb)
  | (refine step_full12 _ rfl (.tmp 8) (.tmp 10) 22 rfl 5 ii (.int .u8 0) underlying22 hii iz is iby rfl g 4 (i8 headT) rfl (by simp [Act.eval]) (KO.out _ G4.out) ⟨b,0,none⟩ 8 8 (i8 (num8 x)) (by simp [Act.eval]) (by rw [i8_len,num8_len]) NW.out (by omega) (by omega) ?_;intro v' w5 r1 r2 r4;obtain ⟨ao',c',rfl⟩:=own_form r1;obtain ⟨⟨C5,F5⟩,WS'⟩:=FIN.out w4 _ w5 G4.out r1 r2 r4;have WS:Hid (WtStep W (w5.setCell ⟨p,0,none⟩ (.slice ao' (4+8) c')) p (fun q=>q=p) (headT++num8 x)):=WS';clear r1 r2 r4 WS'))
 all_goals go_wp2_with fail
 all_goals go_end0
 all_goals exact ⟨rfl,WS.out⟩
theorem tcount0 {W:World} {p g:Nat} (h:Wt0 W p g) (x:Int) (x0:0<=x) (x1:x<9223372036854775808) :
  Calls prog 56 #[.pointer (some ⟨p,0,none⟩),.int .i64 x] W fun e W'=>e=.returned (.tuple #[])/\WtStep W W' p (fun q=>q=p) (headT++num8 x):=by
 have NU:Hid (Calls prog 95 #[.pointer (some ⟨p,0,none⟩),.int .u64 x] W fun e W'=>e=.returned (.tuple #[])/\WtStep W W' p (fun q=>q=p) (headT++num8 x)):=tnumber0 h x x0 (by omega)
 clear h;go_enter func56,ntmps56;go_wp2_with fail;refine NU.out.mono ?_;rintro e w2 ⟨rfl,R⟩;have RR:Hid (WtStep W w2 p (fun q=>q=p) (headT++num8 x)):=R
 clear R NU;go_wp2_with fail;go_end0;exact ⟨rfl,RR.out⟩
def PTs (w:World) (p2:Nat) (W:World) (l:List Int):Prop:=∃ S1,Wt W p2 S1 l/\(∀ q,S1 q->w.heap.size<=q)/\Gw w W
theorem PTs.start {w w0 w2:World} {p2:Nat} {l:List Int} (hp:w.heap.size<=p2) (g:Gw w w0) (h:WtStep w0 w2 p2 (fun q=>q=p2) l):PTs w p2 w2 l:=by
 obtain ⟨S1,a,b,c⟩:=h;refine ⟨S1,a,fun q hq=>?_,?_⟩
 ·rcases c q hq with x | x
  ·have:q=p2:=x
   omega
  ·exact Nat.le_trans g.size x
 ·exact ⟨⟨b.os.trans g.below.os,b.tape.trans g.below.tape,b.output.trans g.below.output,Nat.le_trans g.size b.size,fun q hq=>(b.block q (Nat.lt_of_lt_of_le hq g.size) (fun x=>by have:q=p2:=x;omega)).trans (g.below.block q hq)⟩⟩
theorem PWt.pw {w w4:World} {p2 base:Nat} {W:World} {l:List Int} (h:PWt w w4 p2 base W l):PTs w p2 W l:=by
 obtain ⟨S1,a,b,c,d,e⟩:=h;exact ⟨S1,a,b,e⟩
end Go.Proofs.YtpoohadckhphpaaGreat
