/- Package codec: Put. -/
import Derived.Deep.RegionLaw
import Derived.Test.YtinefkljjnepjabGreatWPRd
import Derived.Test.YtinefkljjnepjabGreatWJW
namespace Go.Proofs.YtinefkljjnepjabGreat
open Go.RowKit
set_option linter.unusedVariables false
attribute [local go_sem] run_store_float
def BL (w:World) (base:Nat) (v:Value) (l:List Int):Prop:=w.ownsRow base 5 1 v l.length (i8 l)
theorem own_up {w:World} {base base' e size n:Nat} {v:Value} {xs:List Value} (h:w.ownsRow base e size v n xs) (hb:∀ q,v.ownBlock=some q→base'≤q):w.ownsRow base' e size v n xs:=by
 refine ⟨h.1,?_⟩
 rcases h.2 with q | ⟨g,cap,cur,rfl,_,r⟩
 ·exact .inl q
 ·exact .inr ⟨g,cap,cur,rfl,hb g rfl,r⟩
def PWr (w w4:World) (p2 base:Nat) (W:World) (l:List Int):Prop:=∃ S1,Wr W p2 S1 l∧(∀ q,S1 q→w.heap.size≤q)∧(∀ q,base≤q→q<w4.heap.size→W.heap[q]?=w4.heap[q]?∧¬ S1 q)∧w4.heap.size≤W.heap.size∧Gw w W
theorem PWr.step {w w4:World} {p2 base:Nat} {W W':World} {l l':List Int} {S1:Nat→Prop} (hw:Wr W p2 S1 l) (h1:∀ q,S1 q→w.heap.size≤q) (h2:∀ q,base≤q→q<w4.heap.size→W.heap[q]?=w4.heap[q]?∧¬ S1 q) (h3:w4.heap.size≤W.heap.size) (h4:Gw w W) (st:WStep W W' p2 S1 l'):PWr w w4 p2 base W' l':=by
 obtain ⟨S2,a,b,c⟩:=st
 refine ⟨S2,a,fun q hq=>?_,fun q hb hq=>⟨(b.block q (by omega) (h2 q hb hq).2).trans (h2 q hb hq).1,fun x=>?_⟩,Nat.le_trans h3 b.size,?_⟩
 ·rcases c q hq with x | x
  ·exact h1 q x
  ·exact Nat.le_trans h4.size x
 ·rcases c q x with y | y
  ·exact (h2 q hb hq).2 y
  ·omega
 ·exact ⟨⟨b.os.trans h4.below.os,b.tape.trans h4.below.tape,b.output.trans h4.below.output,Nat.le_trans h4.size b.size,fun q hq=>(b.block q (Nat.lt_of_lt_of_le hq h4.size) (fun x=>by have:=h1 q x;omega)).trans (h4.below.block q hq)⟩⟩
theorem PWr.gw {w w4:World} {p2 base:Nat} {W W':World} {l:List Int} (h:PWr w w4 p2 base W l) (g:Gw W W'):PWr w w4 p2 base W' l:=by
 obtain ⟨S1,a,b,c,d,e⟩:=h
 exact PWr.step a b c d e (.none a g)
theorem PWr.start {w W3 w4:World} {p2:Nat} {l:List Int} {S1:Nat→Prop} (hw:Wr W3 p2 S1 l) (h1:∀ q,S1 q→w.heap.size≤q) (g:Gw w W3) (g4:Gw W3 w4):PWr w w4 p2 W3.heap.size w4 l :=
 ⟨S1,hw.gw g4,h1,fun q hb hq=>⟨rfl,fun x=>by have:=hw.lt q x;omega⟩,Nat.le_refl _,g.trans g4⟩
theorem entsB_len_le (k v:Nat→Int) (g:Nat→Bool):∀ n,(entsB k v g n).length≤17*n:=by
 intro n
 induction n with
 | zero=>exact Nat.le_refl _
 | succ n ih =>
  rw [entsB_succ,List.length_append,entB_len]
  split<;>omega
theorem levsB_len_le:∀ L:List (List Sg),(∀ l∈L,l.length≤2000000)→(levsB L).length≤L.length*48000008:=by
 intro L
 induction L with
 | nil=>intro _;exact Nat.le_refl _
 | cons l L ih =>
  intro h
  have e:levsB (l::L)=levB l++levsB L:=rfl
  rw [e,List.length_append,levB_len,List.length_cons]
  have:=ih fun t ht=>h t (List.mem_cons_of_mem _ ht)
  have:=h l (List.mem_cons_self ..)
  omega
abbrev hd4:Array Value:=#[.int .u8 73, .int .u8 78, .int .u8 67, .int .u8 49]
theorem conv_head (w:World):(convert 31 31 (.slice (some ⟨w.heap.size,0,none⟩) 4 4)).run Tryz.prog (w.alloc (.cells hd4 5))=.ok (.slice (some ⟨w.heap.size,0,none⟩) 4 4) (w.alloc (.cells hd4 5 (4,5))):=by
 have hsh:(w.alloc (.cells hd4 5)).shape? w.heap.size=some (5,4):=by
  have:(w.alloc (.cells hd4 5)).heap[w.heap.size]?=some (.cells hd4 5):=heap_alloc_new w _
  unfold World.shape?
  rw [this]
  rfl
 have hfr:(w.alloc (.cells hd4 5)).freeze ⟨w.heap.size,4,none⟩ 1=w.alloc (.cells hd4 5 (4,5)):=by
  have hm:∀ (a:Array Obj) (x:Obj) (f:Obj→Obj),(a.push x).modify a.size f=a.push (f x):=by
   intro a x f
   apply Array.ext
   ·simp
   ·intro i h1 h2
    simp only [Array.getElem_modify,Array.getElem_push]
    by_cases h:a.size=i
    ·subst h
     simp
    ·have hi:i<a.size:=by simp at h1;omega
     simp [h,hi]
  unfold World.freeze
  rw [if_neg (by decide)]
  show ({ w.alloc (.cells hd4 5) with heap:=(w.heap.push (.cells hd4 5)).modify w.heap.size _ }:World)=_
  rw [hm]
  rfl
 simp [convert,run_underlying Tryz.underlying31,run_underlying Tryz.underlying5,markStringish,hsh]
 exact hfr
theorem Gw.allocF {a w:World} (h:Gw a w) (c:Array Value) (t:TypeId) (z:Nat×Nat):Gw a (w.alloc (.cells c t z)):=⟨h.below.alloc h.below.size _⟩
theorem head_cells (w:World):∀ j u,(i8 headB)[j]?=some u→(w.alloc (.cells hd4 5 (4,5))).cell? ((⟨w.heap.size,0,none⟩:Addr).add j)=some u:=by
 intro j u hu
 have hb:(w.alloc (.cells hd4 5 (4,5))).heap[w.heap.size]?=some (.cells hd4 5 (4,5)):=heap_alloc_new w _
 rw [Addr.add_lit,Nat.zero_add]
 have e:(w.alloc (.cells hd4 5 (4,5))).cell? ⟨w.heap.size,j,none⟩=hd4[j]?:=by
  unfold World.cell?
  simp only [hb]
  rfl
 rw [e,←hu]
 match j with
 | 0=>rfl
 | 1=>rfl
 | 2=>rfl
 | 3=>rfl
 | j+4=>rfl
theorem step_full12 {P:Program} (w:World) {ops:Array Oper} {o:Oper} {a:Act} {K:Act→World→Prop} {Q:Exit→Act→World→Prop} {E:Prop} (hgd:o.guard=none) (s x:Operand) (t:TypeId)
  (ho:o.op=.call { callee:=.builtin .append,args:=#[s,x],argTypes:=#[t,t] })
  (e:TypeId) (i:TypeInfo) (z:Value) (ht:P.underlying t=some (.slice e)) (hi:P.info? e=some i) (hz:i.zero=some z)
  (hsize:i.size=1) (hby:i.bytes=1) (hzs:z.cells.size=1) (g n:Nat) (xs:List Value) (hn:xs.length=n) (hs:a.eval s=.slice (some ⟨g,0,none⟩) n n) (holds:∀ j u,xs[j]?=some u→w.cell? ((⟨g,0,none⟩:Addr).add j)=some u)
  (ad:Addr) (m c:Nat) (news:List Value) (hx:a.eval x=.slice (some ad) m c) (hl:news.length=m) (hnews:∀ j u,news[j]?=some u→w.cell? (ad.add j)=some u)
  (hm:0<m) (hsm:n+m≤1000)
  (h:∀ v' w',w'.ownsRow 0 e 1 v' (n+m) (xs++news)→Gw w w'→v'.ownBlock=some w.heap.size→K (a.put o.dst v') w') :
  if Region.wanted o (yielded ops a.tmps)=true then Oper.wp P o a w K Q else E:=by
 have hw:Region.wanted o (yielded ops a.tmps)=true:=by simp [Region.wanted,hgd]
 rw [if_pos hw]
 have hr:=run_append_grow (P:=P) w t o.type e i z ht hi hz ⟨g,0,none⟩ n n xs (by rw [hsize,hn,Nat.mul_one]) holds ad m c news (by rw [hsize,hl,Nat.mul_one]) hnews (by omega) (by omega) (growslice_fits (by omega) (by rw [hby];omega))
 have hge:=grownCap_ge w (n+m) n e
 have hcm:grownCap w (n+m) n e≤maxLen:=grownCap_le_maxLen w (n+m) n e (by simp only [maxLen];omega)
 unfold Oper.wp execOp
 simp only [ho,resolve,invoke,builtin,Sem.run_bind,Sem.run_pure,Result.andThen_ok,List.map_toArray,List.map_cons,List.map_nil,hs,hx,hr]
 refine h _ _ ⟨by rw [List.length_append,hn,hl,Nat.mul_one], .inr ⟨w.heap.size,_,_,rfl,Nat.zero_le _,heap_alloc_new w.drew _,hge,hcm,?_,?_⟩⟩ (((Gw.refl w).drew).alloc _ _) rfl
 ·simp only [Array.size_append,List.size_toArray,size_zeroCells,hzs,hn,hl]
  omega
 ·simp only [Array.toList_append,List.append_assoc]
  rw [←List.append_assoc]
  have:(xs++news).length=(n+m)*1:=by rw [List.length_append,hn,hl,Nat.mul_one]
  rw [←this]
  exact List.take_left
structure Wr0 (W:World) (p g:Nat):Prop where
 box:W.heap[p]?=some (.cells #[.slice (some ⟨g,0,none⟩) 4 4] 62 (0,0))
 row:∀ j u,(i8 headB)[j]?=some u→W.cell? ((⟨g,0,none⟩:Addr).add j)=some u
 gl:g<W.heap.size
theorem wr0_new (w:World):Wr0 ((w.alloc (.cells hd4 5 (4,5))).alloc (.cells #[.slice (some ⟨w.heap.size,0,none⟩) 4 4] 62)) (w.heap.size+1) w.heap.size:=by
 refine ⟨?_,fun j u hu=>?_,by simp;omega⟩
 ·have:=heap_alloc_new (w.alloc (.cells hd4 5 (4,5))) (.cells #[.slice (some ⟨w.heap.size,0,none⟩) 4 4] 62)
  rw [show (w.alloc (.cells hd4 5 (4,5))).heap.size=w.heap.size+1 by simp] at this
  exact this
 ·have e:=head_cells w j u hu
  rw [Addr.add_lit] at e ⊢
  exact (((Gw.refl _).alloc _ _).cell _ _ (by simp)).trans e
theorem Wr0.put {W W1 W2:World} {p g:Nat} {m:List Int} {v':Value} (h:Wr0 W p g) (g1:Gw W W1) (r1:W2.ownsRow 0 5 1 v' (headB.length+m.length) (i8 headB++i8 m)) (r2:Gw W1 W2) (r4:v'.ownBlock=some W1.heap.size) :
  WStep W (W2.setCell ⟨p,0,none⟩ v') p (fun q=>q=p) (headB++m):=by
 have pl:p<W.heap.size:=(Array.getElem?_eq_some_iff.1 h.box).1
 obtain ⟨ao,c,rfl⟩:=own_form r1
 rw [←List.length_append] at r1 r4 ⊢
 have np:∀ q,(Value.slice ao (headB++m).length c).ownBlock=some q→q≠p:=fun q hq=>by
  rw [r4] at hq
  cases hq
  have:=g1.size
  omega
 have b2:W2.heap[p]?=_:=((g1.trans r2).below.block p pl).trans h.box
 refine ⟨fun q=>q=p∨(Value.slice ao (headB++m).length c).ownBlock=some q,⟨ao,c,by simp [World.setCell,Array.getElem?_modify,b2],?_,np,fun q=>Iff.rfl⟩,((g1.trans r2).gs (fun q=>q=p)).set (q:=p) rfl _ _,?_⟩
 ·have:=own_kept (w':=W2.setCell ⟨p,0,none⟩ (.slice ao (headB++m).length c)) r1 fun q hq=>Go.Deep.blk_setCell_other _ _ _ _ (np q hq)
  rw [←i8_app] at this
  exact this
 ·rintro q (rfl | e)
  ·exact .inl rfl
  ·rw [r4] at e
   cases e
   exact .inr g1.size
set_option maxRecDepth 10000 in
set_option maxHeartbeats 2000000 in
theorem wnumber0 {W:World} {p g:Nat} (h:Wr0 W p g) (x:Int) (x0:0≤x) (x1:x<18446744073709551616) :
  Calls Tryz.prog 64 #[.pointer (some ⟨p,0,none⟩), .int .u64 x] W fun e W'=>e=.returned (.tuple #[])∧WStep W W' p (fun q=>q=p) (headB++num8 x):=by
 have HR:Hid (Wr0 W p g):=h
 obtain ⟨c0,f0⟩:=rd_cell h.box
 have pl:p<W.heap.size:=(Array.getElem?_eq_some_iff.1 h.box).1
 obtain ⟨ii,hii,iz,is,iby⟩:=info_parts info_b
 have PU:Hid (∀ W1,Calls Tryz.prog 101 #[.slice none 0 0, .int .u64 x] W1 fun e w'=>(∃ b,e=.returned (.slice (some ⟨b,0,none⟩) (0+8) (0+8))∧W1.heap.size≤b∧w'.rowIs b 5 (0+8) (fun i=>.int .u8 (cat (fun _=>0) 0 (fun i=>byt x (7-i)) i)))∧Gw W1 w'):=fun W1=>xput_any none 0 0 (fun _=>0) x x0 x1 (by omega) W1 (bs_nil _ _ _)
 have KO:Hid (∀ w4,Gw W w4→∀ j u,(i8 headB)[j]?=some u→w4.cell? ((⟨g,0,none⟩:Addr).add j)=some u):=fun w4 g4 j u hu=>by
  have:=HR.out.row j u hu
  rw [Addr.add_lit] at this ⊢
  exact (g4.cell _ _ HR.out.gl).trans this
 have FIN:Hid (∀ w4 v' w5,Gw W w4→w5.ownsRow 0 5 1 v' (4+8) (i8 headB++i8 (num8 x))→Gw w4 w5→v'.ownBlock=some w4.heap.size→(w5.cell? ⟨p,0,none⟩=some (.slice (some ⟨g,0,none⟩) 4 4)∧w5.frozen? ⟨p,0,none⟩=false)∧WStep W (w5.setCell ⟨p,0,none⟩ v') p (fun q=>q=p) (headB++num8 x)):=fun w4 v' w5 g4 r1 r2 r4 =>
  ⟨rd_cell (((g4.trans r2).below.block p pl).trans HR.out.box),Wr0.put HR.out g4 (by rw [num8_len];exact r1) r2 r4⟩
 clear h
 go_enter Tryz.func64,Tryz.ntmps64
 go_wp2_with fail
 go_region_law (first
  | (go_simp;refine (PU.out _).mono ?_;rintro e w4 ⟨⟨b,rfl,hb,hR4⟩,g4⟩;have C4:=(g4.cell p 0 pl).trans c0;have NW:Hid (∀ j u,(i8 (num8 x))[j]?=some u→w4.cell? ((⟨b,0,none⟩:Addr).add j)=some u):=num8_row hR4;have G4:Hid (Gw W w4):=((Gw.refl W).drew).trans g4;clear g4 hR4 hb)
  | (refine step_full12 _ rfl (.tmp 8) (.tmp 10) 31 rfl 5 ii (.int .u8 0) Tryz.underlying31 hii iz is iby rfl g 4 (i8 headB) rfl (by simp [Act.eval]) (KO.out _ G4.out) ⟨b,0,none⟩ 8 8 (i8 (num8 x)) (by simp [Act.eval]) (by rw [i8_len,num8_len]) NW.out (by omega) (by omega) ?_;intro v' w5 r1 r2 r4;obtain ⟨ao',c',rfl⟩:=own_form r1;obtain ⟨⟨C5,F5⟩,WS'⟩:=FIN.out w4 _ w5 G4.out r1 r2 r4;have WS:Hid (WStep W (w5.setCell ⟨p,0,none⟩ (.slice ao' (4+8) c')) p (fun q=>q=p) (headB++num8 x)):=WS';clear r1 r2 r4 WS'))
 all_goals go_wp2_with fail
 all_goals go_end0
 all_goals exact ⟨rfl,WS.out⟩
theorem wcount0 {W:World} {p g:Nat} (h:Wr0 W p g) (x:Int) (x0:0≤x) (x1:x<9223372036854775808) :
  Calls Tryz.prog 25 #[.pointer (some ⟨p,0,none⟩), .int .i64 x] W fun e W'=>e=.returned (.tuple #[])∧WStep W W' p (fun q=>q=p) (headB++num8 x):=by
 have NU:Hid (Calls Tryz.prog 64 #[.pointer (some ⟨p,0,none⟩), .int .u64 x] W fun e W'=>e=.returned (.tuple #[])∧WStep W W' p (fun q=>q=p) (headB++num8 x)):=wnumber0 h x x0 (by omega)
 clear h
 go_enter Tryz.func25,Tryz.ntmps25
 go_wp2_with fail
 refine NU.out.mono ?_
 rintro e w2 ⟨rfl,R⟩
 have RR:Hid (WStep W w2 p (fun q=>q=p) (headB++num8 x)):=R
 clear R NU
 go_wp2_with fail
 go_end0
 exact ⟨rfl,RR.out⟩
def PW (w:World) (p2:Nat) (W:World) (l:List Int):Prop:=∃ S1,Wr W p2 S1 l∧(∀ q,S1 q→w.heap.size≤q)∧Gw w W
theorem PW.gw {w:World} {p2:Nat} {W W':World} {l:List Int} (h:PW w p2 W l) (g:Gw W W'):PW w p2 W' l:=by
 obtain ⟨S1,a,b,c⟩:=h
 exact ⟨S1,a.gw g,b,c.trans g⟩
theorem PW.start {w w0 w2:World} {p2:Nat} {l:List Int} (hp:w.heap.size≤p2) (g:Gw w w0) (h:WStep w0 w2 p2 (fun q=>q=p2) l):PW w p2 w2 l:=by
 obtain ⟨S1,a,b,c⟩:=h
 refine ⟨S1,a,fun q hq=>?_,?_⟩
 ·rcases c q hq with x | x
  ·have:q=p2:=x
   omega
  ·exact Nat.le_trans g.size x
 ·exact ⟨⟨b.os.trans g.below.os,b.tape.trans g.below.tape,b.output.trans g.below.output,Nat.le_trans g.size b.size,fun q hq=>(b.block q (Nat.lt_of_lt_of_le hq g.size) (fun x=>by have:q=p2:=x;omega)).trans (g.below.block q hq)⟩⟩
theorem PWr.pw {w w4:World} {p2 base:Nat} {W:World} {l:List Int} (h:PWr w w4 p2 base W l):PW w p2 W l:=by
 obtain ⟨S1,a,b,c,d,e⟩:=h
 exact ⟨S1,a,b,e⟩
theorem PW.pwr {w W3 w4:World} {p2:Nat} {l:List Int} (h:PW w p2 W3 l) (g4:Gw W3 w4):PWr w w4 p2 W3.heap.size w4 l:=by
 obtain ⟨S1,a,b,c⟩:=h
 exact PWr.start a b c g4
theorem PW.count {w:World} {p2:Nat} {W:World} {l:List Int} (h:PW w p2 W l) (x:Int) (x0:0≤x) (x1:x<9223372036854775808) (hl:l.length≤140737488355000) :
  Calls Tryz.prog 25 #[.pointer (some ⟨p2,0,none⟩), .int .i64 x] W fun e W'=>e=.returned (.tuple #[])∧PW w p2 W' (l++num8 x):=by
 obtain ⟨S1,a,b,c⟩:=h
 refine (wcount a x x0 x1 hl).mono fun e w' ⟨r,t⟩=>⟨r,?_⟩
 exact (PWr.step (base:=W.heap.size) (w4:=W) a b (fun q _ hq=>by omega) (Nat.le_refl _) c t).pw
theorem PWr.entry {w w4:World} {p2 base:Nat} {W:World} {l:List Int} (h:PWr w w4 p2 base W l) (k v:Int) (g:Bool) (k0:0≤k) (k1:k<18446744073709551616) (v0:0≤v) (v1:v<18446744073709551616) (hl:l.length≤140737488354000) :
  Calls Tryz.prog 27 #[.pointer (some ⟨p2,0,none⟩), .agg #[.int .u64 k, .int .u64 v, .bool g]] W fun e W'=>e=.returned (.tuple #[])∧PWr w w4 p2 base W' (l++entB k v g):=by
 obtain ⟨S1,a,b,c,d,e⟩:=h
 exact (wentry a k v g k0 k1 v0 v1 hl).mono fun e w' ⟨r,t⟩=>⟨r,PWr.step a b c d (by assumption) t⟩
theorem PWr.level {w w4:World} {p2 base:Nat} {W:World} {l:List Int} (h:PWr w w4 p2 base W l) (ao:Option Addr) (cc:Nat) (lv:List Sg) (hg:GS W ao lv) (af:∀ a,ao=some a→base≤a.block∧a.block<w4.heap.size) (te:∀ s∈lv,0≤s.te) (hv:lv.length≤2000000) (hl:l.length≤140000000000000) :
  Calls Tryz.prog 30 #[.pointer (some ⟨p2,0,none⟩), .slice ao lv.length cc] W fun e W'=>e=.returned (.tuple #[])∧PWr w w4 p2 base W' (l++levB lv):=by
 obtain ⟨S1,a,b,c,d,e⟩:=h
 exact (wlevel a ao cc lv hg (fun ad ha _=>(c _ (af ad ha).1 (af ad ha).2).2) te hv hl).mono fun e w' ⟨r,t⟩=>⟨r,PWr.step a b c d (by assumption) t⟩
theorem PWr.kept {w w4:World} {p2 base:Nat} {W:World} {l:List Int} (h:PWr w w4 p2 base W l):w4.heap.size≤W.heap.size∧(∀ q,base≤q→q<w4.heap.size→W.heap[q]?=w4.heap[q]?)∧Gw w W:=by
 obtain ⟨S1,a,b,c,d,e⟩:=h
 exact ⟨d,fun q x y=>(c q x y).1,e⟩
set_option maxRecDepth 10000 in
set_option maxHeartbeats 8000000 in
theorem jput {HR:World→Nat→(Nat→Prop)→Int→(Nat→Int)→(Nat→Int)→(Nat→Bool)→Nat→List (List Sg)→Prop} (H:RunC HR) {w:World} {p:Nat} {S:Nat→Prop} {eps:Int} {k v:Nat→Int} {g:Nat→Bool} {n:Nat} {L:List (List Sg)} (h:HR w p S eps k v g n L)
  (bd:∀ i,i<n→(0≤k i∧k i<18446744073709551616)∧(0≤v i∧v i<18446744073709551616)) (te:∀ l∈L,∀ s∈l,0≤s.te) :
  Calls Tryz.prog 8 #[.pointer (some ⟨p,0,none⟩)] w fun e w'=>(∃ bo c,e=.returned (.slice bo (putB eps k v g n L).length c)∧BL w' w.heap.size (.slice bo (putB eps k v g n L).length c) (putB eps k v g n L))∧Gw w w':=by
 have HH:Hid (RunC HR):=H
 have R2:Hid (HR w p S eps k v g n L):=h
 have rdy:=H.ready h
 have e0:=rdy.e0
 have e1:=rdy.e1
 have n1:=rdy.n1
 have SHO:Hid (Short L):=rdy.sh
 have BD:Hid (∀ i,i<n→(0≤k i∧k i<18446744073709551616)∧(0≤v i∧v i<18446744073709551616)):=bd
 have TE:Hid (∀ l∈L,∀ s∈l,0≤s.te):=te
 obtain ⟨pp,Sp,cp0,hp,sub⟩:=H.pile h
 have pl:p<w.heap.size:=H.lt h p (H.own h)
 obtain ⟨ln,hln⟩:∃ ln,L.length=ln:=⟨_,rfl⟩
 have LN:Hid (L.length=ln):=hln
 have s1:ln≤2000000:=hln▸rdy.sh.1
 have KP:Hid (∀ W,Gw w W→HPile W pp Sp eps k n L):=fun W gg=>hp.keep fun q hq=>gg.below.block q (hp.lt q hq)
 have EP:Hid (∀ W,Gw w W→Calls Tryz.prog 26 #[.pointer (some ⟨pp,0,none⟩)] W fun e w'=>e=.returned (.int .i64 eps)∧w'=W):=fun W gg=>pl_eps (KP.out W gg)
 have HT:Hid (∀ W,Gw w W→Calls Tryz.prog 28 #[.pointer (some ⟨pp,0,none⟩)] W fun e w'=>e=.returned (.int .i64 (ln:Int))∧w'=W):=fun W gg=>by
  have:=pl_height (KP.out W gg)
  rw [LN.out] at this
  exact this
 have LE:Hid (∀ W,Gw w W→Calls Tryz.prog 20 #[.pointer (some ⟨p,0,none⟩)] W fun e w'=>e=.returned (.int .i64 (n:Int))∧Gw W w'):=fun W gg=>HH.out.len (HH.out.gw R2.out gg)
 have LI:Hid (∀ W,Gw w W→Calls Tryz.prog 10 #[.pointer (some ⟨p,0,none⟩)] W fun e w'=>(∃ bo c,e=.returned (.slice bo n c)∧ES w' bo n k v g∧∀ a,bo=some a→W.heap.size≤a.block)∧Gw W w'):=fun W gg=>(HH.out.list (HH.out.gw R2.out gg)).mono fun e w' ⟨⟨bo,c,a,er⟩,b⟩=>⟨⟨bo,c,a,er_es er BD.out,fun ad ea=>by
  obtain ⟨bo',c',e',_,x⟩:=er_form er
  cases e'
  exact (x ad ea).1⟩,b⟩
 have LV:Hid (∀ W,Gw w W→Calls Tryz.prog 29 #[.pointer (some ⟨p,0,none⟩)] W fun e w'=>(∃ mo mc,e=.returned (.slice mo ln mc)∧VSf w' W.heap.size mo L)∧Gw W w'):=fun W gg=>(HH.out.levels (HH.out.gw R2.out gg)).mono fun e w' ⟨⟨mo,mc,vals,a,ow,lok,hl⟩,b⟩=>⟨⟨mo,mc,by rw [←LN.out];exact a,ow.vsf lok⟩,b⟩
 have G0:Hid (Gw w ((w.alloc (.cells hd4 5 (4,5))).alloc (.cells #[.slice (some ⟨w.heap.size,0,none⟩) 4 4] 62))):=((Gw.refl w).allocF _ _ _).alloc _ _
 have P0:Hid (Wr0 ((w.alloc (.cells hd4 5 (4,5))).alloc (.cells #[.slice (some ⟨w.heap.size,0,none⟩) 4 4] 62)) (w.heap.size+1) w.heap.size):=wr0_new w
 clear h H rdy hp hln bd te sub
 have CP:Hid (∀ W,Gw w W→W.cell? ⟨p,0,none⟩=some (.pointer (some ⟨pp,0,none⟩))∧p<W.heap.size):=fun W gg=>⟨(gg.cell _ _ pl).trans cp0,Nat.lt_of_lt_of_le pl gg.size⟩
 clear cp0 pl
 have hcv:=conv_head w
 go_enter Tryz.func8,Tryz.ntmps8
 obtain ⟨c0,l0⟩:=CP.out _ G0.out
 go_wp2_with fail
 generalize ((w.alloc (.cells hd4 5 (4,5))).alloc (.cells #[.slice (some ⟨w.heap.size,0,none⟩) 4 4] 62))=w0 at G0 P0 c0 l0 ⊢
 refine (EP.out _ G0.out).mono ?_
 rintro e w1 ⟨rfl,hw⟩
 subst hw
 obtain ⟨p2,hp2⟩:∃ p2,w.heap.size+1=p2:=⟨_,rfl⟩
 rw [hp2] at P0
 rw [hp2]
 have PG:Hid (w.heap.size≤p2):=by show _≤_;omega
 clear hp2
 go_wp2_with fail
 refine (wcount0 P0.out eps (by omega) (by omega)).mono ?_
 rintro e w2 ⟨rfl,R⟩
 have P2:Hid (PW w p2 w2 (headB++num8 eps)):=PW.start PG.out G0.out R
 clear R P0 G0 c0 l0
 have G2:Hid (Gw w w2):=by obtain ⟨_,_,_,x⟩:=P2.out;exact x
 obtain ⟨c0,l0⟩:=CP.out _ G2.out
 go_wp2_with fail
 refine (LE.out _ G2.out).mono ?_
 rintro e w3 ⟨rfl,g3⟩
 have P3:Hid (PW w p2 w3 (headB++num8 eps)):=P2.out.gw g3
 clear g3 P2 G2 c0 l0
 go_wp2_with fail
 refine (P3.out.count (n:Int) (by omega) (by omega) (by rw [List.length_append,num8_len];simp [headB])).mono ?_
 rintro e w4 ⟨rfl,P4'⟩
 have P4:Hid (PW w p2 w4 (headB++num8 eps++num8 (n:Int))):=P4'
 have G4:Hid (Gw w w4):=by obtain ⟨_,_,_,x⟩:=P4';exact x
 clear P4' P3
 go_wp2_with fail
 refine (LI.out _ G4.out).mono ?_
 rintro e w5 ⟨⟨eo,ec,rfl,es5,eb5⟩,g5⟩
 have P5:Hid (PWr w w5 p2 w4.heap.size w5 (headB++num8 eps++num8 (n:Int)++entsB k v g 0)):=by
  have:=P4.out.pwr g5
  show PWr _ _ _ _ _ _
  simpa [entsB] using this
 have E5:Hid (ES w5 eo n k v g∧∀ a,eo=some a→w4.heap.size≤a.block):=⟨es5,eb5⟩
 clear P4 G4 es5 eb5 g5
 obtain ⟨x0,hx0⟩:∃ x0,headB++num8 eps++num8 (n:Int)=x0:=⟨_,rfl⟩
 have X0:Hid (headB++num8 eps++num8 (n:Int)=x0):=hx0
 have xl:x0.length=20:=by rw [←hx0,List.length_append,List.length_append,num8_len,num8_len];rfl
 rw [hx0] at P5
 clear hx0
 go_wp2_with fail
 go_loopg [23] n (fun gg s23 wr=>∃ i:Nat,s23=.int .i64 i∧i≤n∧n-i≤gg∧Hid (PWr w w5 p2 w4.heap.size wr (x0++entsB k v g i)))
 case atStart=>exact ⟨0,rfl,Nat.zero_le _,by omega,P5⟩
 case round =>
  clear P5
  obtain ⟨i,rfl,h1,h2,PI⟩:=hrel
  by_cases hlt:i<n
  ·obtain ⟨kk1,kk2,kk3⟩:=PI.out.kept
   obtain ⟨eb,ef,rfl,heb,hec⟩:=(E5.out.1.kept E5.out.2 kk1 kk2).cells (by omega)
   obtain ⟨d1,d2,d3⟩:=hec i hlt
   obtain ⟨⟨k0,k1⟩,v0,v1⟩:=BD.out i hlt
   have EB:Hid (entsB k v g (i+1)=entsB k v g i++entB (k i) (v i) (g i)):=entsB_succ k v g i
   have el:=entsB_len_le k v g i
   generalize k i=ki at d1 k0 k1 EB
   generalize v i=vi at d2 v0 v1 EB
   generalize g i=gi at d3 EB
   have PA:Hid (PWr w w5 p2 w4.heap.size (wr.alloc (.cells #[.int .u64 ki, .int .u64 vi, .bool gi] 39)) (x0++entsB k v g i)):=PI.out.gw ((Gw.refl wr).alloc _ _)
   clear hec kk1 kk2 kk3 PI
   go_wp2_with fail
   refine (PA.out.entry ki vi gi k0 k1 v0 v1 (by rw [List.length_append];omega)).mono ?_
   rintro e w7 ⟨rfl,P7'⟩
   have P7:Hid (PWr w w5 p2 w4.heap.size w7 (x0++entsB k v g (i+1))):=by
    show PWr _ _ _ _ _ _
    rw [EB.out,←List.append_assoc]
    exact P7'
   clear P7' PA
   go_wp2_with fail
   go_roundg (n-(i+1))
   case measure=>omega
   case rel=>exact ⟨i+1,by go_num,by omega,Nat.le_refl _,P7⟩
  ·have ei:i=n:=by omega
   subst ei
   have P8:Hid (PW w p2 wr (x0++entsB k v g i)):=PI.out.pw
   have G8:Hid (Gw w wr):=PI.out.kept.2.2
   obtain ⟨c0,l0⟩:=CP.out _ G8.out
   have el:=entsB_len_le k v g i
   clear PI E5
   go_wp2_with fail
   refine (HT.out _ G8.out).mono ?_
   rintro e w8 ⟨rfl,hw⟩
   subst hw
   go_wp2_with fail
   refine (P8.out.count (ln:Int) (by omega) (by omega) (by rw [List.length_append];omega)).mono ?_
   rintro e w9 ⟨rfl,P9'⟩
   have P9:Hid (PW w p2 w9 (x0++entsB k v g i++num8 (ln:Int))):=P9'
   have G9:Hid (Gw w w9):=by obtain ⟨_,_,_,x⟩:=P9';exact x
   clear P9' P8 G8 c0 l0
   go_wp2_with fail
   refine (LV.out _ G9.out).mono ?_
   rintro e wA ⟨⟨mo,mc,rfl,vs⟩,gA⟩
   have PA:Hid (PWr w wA p2 w9.heap.size wA (x0++entsB k v g i++num8 (ln:Int)++levsB (L.take 0))):=by
    have:=P9.out.pwr gA
    show PWr _ _ _ _ _ _
    simpa [levsB] using this
   have VA:Hid (VSf wA w9.heap.size mo L):=vs
   clear P9 G9 vs gA
   obtain ⟨x1,hx1⟩:∃ x1,x0++entsB k v g i++num8 (ln:Int)=x1:=⟨_,rfl⟩
   have X1:Hid (x0++entsB k v g i++num8 (ln:Int)=x1):=hx1
   have xl1:x1.length≤28+17*i:=by rw [←hx1,List.length_append,List.length_append,num8_len];omega
   rw [hx1] at PA
   clear hx1
   go_wp2_with fail
   go_loopg [39] ln (fun gg s39 wr=>∃ j:Nat,s39=.int .i64 j∧j≤ln∧ln-j≤gg∧Hid (PWr w wA p2 w9.heap.size wr (x1++levsB (L.take j))))
   case atStart=>exact ⟨0,rfl,Nat.zero_le _,by omega,PA⟩
   case round =>
    clear PA
    obtain ⟨j,rfl,j1,j2,PJ⟩:=hrel
    by_cases hlt:j<ln
    ·obtain ⟨kk1,kk2,kk3⟩:=PJ.out.kept
     obtain ⟨mb,mf,rfl,hmb,hmc⟩:=VA.out.cells (by rw [LN.out];omega)
     obtain ⟨bo,bc,q1',q2,q3,q4',q5⟩:=hmc j (by rw [LN.out];exact hlt)
     have q1:=(World.cell?_of_block (a:=⟨mb,mf+j,none⟩) (kk2 mb hmb.1 hmb.2)).trans q1'
     have q4:GS wr bo (L.getD j []):=gs_kept q4' (fun a ha=>kk2 _ (q5 a ha).1 (q5 a ha).2) kk1
     have hjL:j<L.length:=by rw [LN.out];exact hlt
     have TK:L.take (j+1)=L.take j++[L.getD j []]:=by
      rw [List.take_add_one,List.getElem?_eq_getElem hjL]
      simp [List.getD,hjL]
     have lm:L.getD j []∈L:=by
      have:L.getD j []=L[j]:=by simp [List.getD,hjL]
      rw [this]
      exact List.getElem_mem hjL
     have te:=TE.out _ lm
     have sh:=SHO.out.2 j hjL
     have ll:(levsB (L.take j)).length≤j*48000008:=by
      have:=levsB_len_le (L.take j) (fun l hl=>by
       obtain ⟨t,ht,e⟩:=List.mem_iff_getElem.1 (List.mem_of_mem_take hl)
       have:=SHO.out.2 t ht
       simp only [List.getD,List.getElem?_eq_getElem ht,Option.getD_some] at this
       rw [←e]
       exact this)
      rw [List.length_take,LN.out,Nat.min_eq_left (by omega)] at this
      exact this
     have CL:Hid (Calls Tryz.prog 30 #[.pointer (some ⟨p2,0,none⟩), .slice bo (L.getD j []).length bc] wr fun e W'=>e=.returned (.tuple #[])∧PWr w wA p2 w9.heap.size W' (x1++levsB (L.take (j+1)))):=(PJ.out.level bo bc (L.getD j []) q4 q5 te sh (by rw [List.length_append];omega)).mono fun e w' ⟨a,b⟩=>⟨a,by
      rw [TK,levsB,List.flatMap_append,←List.append_assoc]
      simpa [levsB] using b⟩
     obtain ⟨sl,hsl⟩:∃ sl,(L.getD j []).length=sl:=⟨_,rfl⟩
     rw [hsl] at CL q1
     clear hmc q1' q2 q3 q4 q4' q5 PJ TK lm te sh ll hsl kk1 kk2 kk3
     go_wp2_with fail
     refine CL.out.mono ?_
     rintro e w7 ⟨rfl,P7'⟩
     have P7:Hid (PWr w wA p2 w9.heap.size w7 (x1++levsB (L.take (j+1)))):=P7'
     clear P7' CL
     go_wp2_with fail
     go_roundg (ln-(j+1))
     case measure=>omega
     case rel=>exact ⟨j+1,by go_num,by omega,Nat.le_refl _,P7⟩
    ·have ej:j=ln:=by omega
     subst ej
     have PF:=PJ.out.pw
     rw [List.take_of_length_le (by rw [LN.out];exact Nat.le_refl _)] at PF
     have ex:x1++levsB L=putB eps k v g i L:=by
      rw [←X1.out,←X0.out]
      unfold putB
      rw [LN.out]
      simp [List.append_assoc]
     rw [ex] at PF
     obtain ⟨S9,⟨vo,cap,b1,b2,b3,b4⟩,sub9,G9⟩:=PF
     have RES:Hid (BL wr w.heap.size (.slice vo (putB eps k v g i L).length cap) (putB eps k v g i L)∧Gw w wr):=⟨own_up b2 fun q hq=>sub9 q ((b4 q).2 (.inr hq)),G9⟩
     obtain ⟨c0,f0⟩:=rd_cell b1
     have pl:p2<wr.heap.size:=(Array.getElem?_eq_some_iff.1 b1).1
     clear b1 b2 b3 b4 sub9 G9 PJ ex
     obtain ⟨bl,hbl⟩:∃ bl,(putB eps k v g i L).length=bl:=⟨_,rfl⟩
     have HB:Hid ((putB eps k v g i L).length=bl):=hbl
     rw [hbl] at c0
     clear hbl
     go_wp2_with fail
     go_ret
     exact ⟨⟨vo,cap,by rw [HB.out];rfl,RES.out.1⟩,RES.out.2⟩
end Go.Proofs.YtinefkljjnepjabGreat
