/- The document's layer 16: New and Of. -/
import Derived.Test.YtpoohadckhphpaaGreatBTPl
import Derived.Test.YtpoohadckhphpaaGreatBDLv
import Derived.Test.YtpoohadckhphpaaGreatBUDoc4
set_option linter.unusedVariables false
set_option maxHeartbeats 4000000
set_option maxRecDepth 10000
open Go.Proofs.Tryz
namespace Go.Proofs.YtpoohadckhphpaaGreat
open Go.RowKit
def NewD (w w':World) (eps buf keys:Int) (pt pb pu:Nat):Prop :=
 w'.heap[pt]?=some (.cells #[.int .i64 eps,.int .i64 buf,.int .i64 keys,.pointer (some ⟨pb,0,none⟩),.pointer (some ⟨pu,0,none⟩)] 122 (0,0))/\w'.heap[pb]?=some (.cells #[.int .i64 buf,.slice none 0 0] 124 (0,0))/\w.heap.size<=pt/\w.heap.size<=pb/\pb≠pt
theorem rnewb14 (most:Int) (h1:1<=most) (h2:most<=4294967296) (w:World) :
  Calls prog 90 #[.int .i64 most] w fun e w'=>(e=.returned (.tuple #[.pointer (some ⟨w.heap.size,0,none⟩),.int .i64 0])/\w'.heap[w.heap.size]?=some (.cells #[.int .i64 most,.slice none 0 0] 124 (0,0)))/\Gw w w':=by
 have N:Aside ((w.alloc (.cells #[.int .i64 most,.slice none 0 0] 124)).heap[w.heap.size]?=some (.cells #[.int .i64 most,.slice none 0 0] 124 (0,0))):=heap_alloc_new w _;have G:Aside (Gw w (w.alloc (.cells #[.int .i64 most,.slice none 0 0] 124))):=(Gw.refl w).alloc _ _;have t1:decide (most<1)=false:=by simp;omega
 have t2:decide ((4294967296:Int)<most)=false:=by simp;omega
 go_enter func90,ntmps90;go_wp2_with fail;go_ret2;exact ⟨⟨rfl,N.out⟩,G.out⟩
theorem rnew16 (eps buf keys:Int) (w:World) :
  Calls prog 52 #[.agg #[.int .i64 eps,.int .i64 buf,.int .i64 keys]] w fun e w'=>((¬ CfgOk eps buf keys/\e=.returned (.tuple #[.pointer none,.int .i64 160]))\/(CfgOk eps buf keys/\∃ pt pb pu,e=.returned (.tuple #[.pointer (some ⟨pt,0,none⟩),.int .i64 0])/\NewD w w' eps buf keys pt pb pu))/\Gw w w':=by
 have b0:(w.alloc (.cells #[.int .i64 eps,.int .i64 buf,.int .i64 keys] 35)).heap[w.heap.size]?=some (.cells #[.int .i64 eps,.int .i64 buf,.int .i64 keys] 35 (0,0)):=heap_alloc_new w _;have G0:Hid (Gw w (w.alloc (.cells #[.int .i64 eps,.int .i64 buf,.int .i64 keys] 35))):=(Gw.refl w).alloc _ _;obtain ⟨bq,hbq⟩:∃ b,w.heap.size=b:=⟨_,rfl⟩;have BQ:Aside (w.heap.size=bq):=hbq;rw [hbq] at b0;have CK:Hid (∀ W,Calls prog 89 #[.agg #[.int .i64 eps,.int .i64 buf,.int .i64 keys]] W fun e w'=>e=.returned (.int .i64 (cfgE eps buf keys))/\Gw W w'):=fun W=>rcheck16 eps buf keys W
 have CB:Hid (∀ W W',W.heap[bq]?=some (.cells #[.int .i64 eps,.int .i64 buf,.int .i64 keys] 35 (0,0))->Gw W W'->W'.heap[bq]?=some (.cells #[.int .i64 eps,.int .i64 buf,.int .i64 keys] 35 (0,0))):=fun W W' h g=>(g.below.block _ (Array.getElem?_eq_some_iff.1 h).1).trans h
 clear hbq;go_enter func52,ntmps52;go_wp2_with fail;rw [BQ.out];generalize w.alloc (.cells #[.int .i64 eps,.int .i64 buf,.int .i64 keys] 35)=w0 at b0 G0 ⊢;refine (CK.out _).mono ?_;rintro e w1 ⟨rfl,g1⟩;have G1:Hid (Gw w w1):=G0.out.trans g1;have B1:Hid (w1.heap[bq]?=some (.cells #[.int .i64 eps,.int .i64 buf,.int .i64 keys] 35 (0,0))):=CB.out _ _ b0 g1;clear g1 b0 G0 CK;by_cases ok:CfgOk eps buf keys
 ·have e0:cfgE eps buf keys=0:=if_pos ok
  rw [e0];have OK:Hid (CfgOk eps buf keys):=ok;obtain ⟨c0,c1,c2⟩:=ent_cells B1.out;have cl:=(Array.getElem?_eq_some_iff.1 B1.out).1;have n1:=ok.2.1.1;have n2:=ok.2.1.2;have NB:Hid (∀ W,Calls prog 90 #[.int .i64 buf] W fun e w'=>(e=.returned (.tuple #[.pointer (some ⟨W.heap.size,0,none⟩),.int .i64 0])/\w'.heap[W.heap.size]?=some (.cells #[.int .i64 buf,.slice none 0 0] 124 (0,0)))/\Gw W w'):=fun W=>rnewb14 buf n1 n2 W
  have NC:Hid (∀ W,Calls prog 91 #[.int .i64 eps,.int .i64 buf] W fun e w'=>(∃ p,e=.returned (.tuple #[.pointer (some ⟨p,0,none⟩),.int .i64 0]))/\Gw W w'):=fun W=>(rnew15 eps buf W).mono fun e w' hh=>by
   rcases hh with ⟨⟨a,_⟩ | ⟨_,p,b,a,_⟩,g⟩
   ·exact absurd ⟨⟨OK.out.1.1,OK.out.1.2⟩,OK.out.2.1.1,OK.out.2.1.2⟩ a
   ·exact ⟨⟨p,a⟩,g⟩
  clear ok e0 n1 n2;go_wp2_with fail;refine (NB.out _).mono ?_;rintro e w2 ⟨⟨rfl,hb2⟩,g2⟩;obtain ⟨pb,hpb⟩:∃ p,w1.heap.size=p:=⟨_,rfl⟩;rw [hpb] at hb2 ⊢;have G2:Hid (Gw w w2):=G1.out.trans g2;have PB:Hid (w.heap.size<=pb):=by show _<=_;have:=G1.out.size;omega
  have B2:Hid (w2.heap[bq]?=some (.cells #[.int .i64 eps,.int .i64 buf,.int .i64 keys] 35 (0,0))):=CB.out _ _ B1.out g2;have HB2:Hid (w2.heap[pb]?=some (.cells #[.int .i64 buf,.slice none 0 0] 124 (0,0))):=hb2;obtain ⟨d0,d1,d2⟩:=ent_cells B2.out;have dl:=(Array.getElem?_eq_some_iff.1 B2.out).1;clear g2 hb2 G1 B1 NB c0 c1 c2 cl hpb;go_wp2_with fail;refine (NC.out _).mono ?_;rintro e w3 ⟨⟨pu,rfl⟩,g3⟩;have B3:w3.heap[bq]?=some (.cells #[.int .i64 eps,.int .i64 buf,.int .i64 keys] 35 (0,0)):=CB.out _ _ B2.out g3;obtain ⟨x0,x1,x2⟩:=ent_cells B3;have xl:=(Array.getElem?_eq_some_iff.1 B3).1;have hb3:w3.heap[pb]?=some (.cells #[.int .i64 buf,.slice none 0 0] 124 (0,0)):=(g3.below.block _ (Array.getElem?_eq_some_iff.1 HB2.out).1).trans HB2.out;have RES:Hid (NewD w (w3.alloc (.cells #[.int .i64 eps,.int .i64 buf,.int .i64 keys,.pointer (some ⟨pb,0,none⟩),.pointer (some ⟨pu,0,none⟩)] 122)) eps buf keys w3.heap.size pb pu/\Gw w (w3.alloc (.cells #[.int .i64 eps,.int .i64 buf,.int .i64 keys,.pointer (some ⟨pb,0,none⟩),.pointer (some ⟨pu,0,none⟩)] 122))):=by
   have pl:=(Array.getElem?_eq_some_iff.1 hb3).1;exact ⟨⟨heap_alloc_new w3 _,(((Gw.refl w3).alloc _ _).below.block _ pl).trans hb3,(G2.out.trans g3).size,PB.out,by omega⟩,(G2.out.trans g3).alloc _ _⟩
  clear g3 B3 hb3 G2 B2 HB2 d0 d1 d2 dl NC CB;go_wp2_with fail;go_ret2;exact ⟨.inr ⟨OK.out,_,pb,pu,rfl,RES.out.1⟩,RES.out.2⟩
 ·have e0:cfgE eps buf keys=160:=if_neg ok
  rw [e0];have NO:Hid (¬ CfgOk eps buf keys):=ok;clear ok e0;go_wp2_with fail;go_ret2;exact ⟨.inl ⟨NO.out,rfl⟩,G1.out⟩
structure LE (w0:World) (B:Nat) (w:World) (v:Value) (L:List (List Ent)):Prop where
 row:∃ vals,w.ownsRow B 47 1 v L.length vals/\∀ i,i<L.length->∃ bo c,vals[i]?=some (.slice bo (L.getD i []).length c)/\(L.getD i []).length<=c/\EL w0 bo (L.getD i [])/\(bo=none->(L.getD i []).length=0/\c=0)
theorem LE.nil (w0:World) (B:Nat) (w:World):LE w0 B w (.slice none 0 0) []:=⟨⟨[],World.ownsRow_nil _ _ _ _,fun i hi=>by simp at hi⟩⟩
theorem LE.gw {w0 w w':World} {B:Nat} {v:Value} {L:List (List Ent)} (h:LE w0 B w v L) (g:Gw w w'):LE w0 B w' v L:=by
 obtain ⟨vals,r,p⟩:=h.row;exact ⟨vals,own_kept r fun q hq=>g.below.block q (World.ownsRow.lt r q hq).2,p⟩
theorem LE.ev {w0 w:World} {B:Nat} {ao:Option Addr} {n c:Nat} {L:List (List Ent)} (h:LE w0 B w (.slice ao n c) L) (hn:L.length=n) (g:Gw w0 w):EV w ao L:=by
 obtain ⟨vals,r,p⟩:=h.row;refine ⟨fun h0=>?_⟩
 rcases r.2 with ⟨e,z⟩ | ⟨b,cap,cur,e,hb,hh,x⟩
 ·omega
 ·injection e with e1 e2 e3
  subst e1;refine ⟨b,0,rfl,(Array.getElem?_eq_some_iff.1 hh).1,fun i hi=>?_⟩
  obtain ⟨bo,c',h1,h2,h3,h4⟩:=p i hi;refine ⟨bo,c',?_,h2,h3.gw g,h4⟩;rw [hn] at r;rw [Nat.zero_add,World.ownsRow.cellAt r i (by omega)]
  exact h1
theorem LE.more {w0 w w5:World} {B:Nat} {v v':Value} {L:List (List Ent)} {l:List Ent} {bo:Option Addr} {c n k:Nat} {vals:List Value} (r:w.ownsRow B 47 1 v n vals) (ln:L.length=n) (lk:l.length=k) (p:∀ i,i<L.length->∃ bo c,vals[i]?=some (.slice bo (L.getD i []).length c)/\(L.getD i []).length<=c/\EL w0 bo (L.getD i [])/\(bo=none->(L.getD i []).length=0/\c=0)) (hc:l.length<=c) (el:EL w0 bo l) (hn:bo=none->l.length=0/\c=0)
  (r1:w5.ownsRow B 47 1 v' (n+1) (vals++[.slice bo k c])):LE w0 B w5 v' (L++[l]):=by
 subst ln;subst lk;have vl:vals.length=L.length:=by have:=r.1;omega
 refine ⟨vals++[.slice bo l.length c],by rw [List.length_append];exact r1,fun i hi=>?_⟩
 by_cases e:i<L.length
 ·obtain ⟨b,c',h1,h2,h3,h4⟩:=p i e
  have eg:(L++[l]).getD i []=L.getD i []:=by
   rw [List.getD_eq_getElem?_getD,List.getElem?_append_left e,<-List.getD_eq_getElem?_getD]
  rw [eg];exact ⟨b,c',by rw [List.getElem?_append_left (by omega)];exact h1,h2,h3,h4⟩
 ·have ei:i=L.length:=by
   rw [List.length_append] at hi;simp at hi;omega
  subst ei;have eg:(L++[l]).getD L.length []=l:=by simp [List.getD]
  rw [eg];exact ⟨bo,c,by rw [<-vl];simp,hc,el,hn⟩
theorem tot_drop16 (l:List (Option Rn)) (i:Nat):tot (l.drop i)<=tot l:=by have:=tot_take l i;omega
theorem lists_len16:∀ l:List (Option Rn),(lists l).length<=l.length
 | []=>Nat.le_refl _
 | none::l=>by have:=lists_len16 l;show (lists l).length<=l.length+1;omega
 | some r::l=>by have:=lists_len16 l;show (r.l::lists l).length<=l.length+1;rw [List.length_cons];omega
theorem sizes_rev (L:List (List Ent)):sizes L.reverse=sizes L:=by
 induction L with
 | nil=>rfl
 | cons x L ih=>rw [List.reverse_cons,sizes_app,ih,sizes_cons,sizes_cons];show _+(x.length+0)=_;omega
theorem new_v16 (w:World) (v:Value) (t:TypeId):∀ j u,([v]:List Value)[j]?=some u->(w.alloc (.cells #[v] t)).cell? ((⟨w.heap.size,0,none⟩:Addr).add j)=some u:=cell_one_new w v t
theorem lvs_live {rs:List (Option Rn)} (hr:∀ r,some r∈rs->Rise Ent.k r.l):LvN (liveQ rs) (lvs (lists rs).reverse).length:=by
 have hL:∀ x∈lists rs,Rise Ent.k x:=fun x y=>by
  rw [lists_map,List.mem_filterMap] at y;obtain ⟨o,ho,e⟩:=y;obtain ⟨u,hu,rfl⟩:=List.mem_map.1 ho;cases u with
  | none=>cases e
  | some r=>cases e;exact hr r hu
 have A:=fun q=>lvs_fit q _ hL
 refine ⟨(lvs (lists rs).reverse).map Ent.k,rise_keys (A 0).1,fun q=>?_,by simp⟩
 have V:(look Ent.k q (lvs (lists rs).reverse)).isSome=liveQ rs q:=by
  rw [(A q).2.2];unfold liveQ nw;cases firstOf Ent.k q (lists rs) with
  | none=>rfl
  | some x=>unfold over1 liveO;cases hg:x.g<;>simp [hg]
 rw [<-V];constructor
 ·intro h
  obtain ⟨x,hx,rfl⟩:=List.mem_map.1 h;rw [look_mem (A 0).1 hx];rfl
 ·intro h
  obtain ⟨x,hx⟩:=Option.isSome_iff_exists.1 h;exact List.mem_map.2 ⟨x,List.mem_of_find?_eq_some hx,look_key hx⟩
theorem lists_rep (n:Nat):lists (List.replicate n (none:Option Rn))=[]:=by
 induction n with
 | zero=>rfl
 | succ n ih=>rw [List.replicate_succ,show (none:Option Rn)::List.replicate n none=[none]++List.replicate n none from rfl,lists_app,ih];rfl
theorem upR_lists {l:List (Option Rn)} (hl:l.length<=40) (j:Nat):lists ((upR l).drop j)=lists (l.drop j):=by
 unfold upR;rw [List.take_of_length_le hl];by_cases h:j<=l.length
 ·rw [List.drop_append_of_le_length h,lists_app,lists_rep,List.append_nil]
 ·have e:l.drop j=[]:=List.drop_eq_nil_of_le (by omega)
  have e2:(l++List.replicate (40-l.length) (none:Option Rn)).drop j=List.replicate (40-l.length-(j-l.length)) none:=by
   rw [List.drop_append,e,List.drop_replicate];rfl
  rw [e,e2,lists_rep];rfl
theorem liveQ_lists {a b:List (Option Rn)} (h:lists a=lists b):liveQ a=liveQ b:=by
 funext q
 unfold liveQ nw;rw [h]
theorem liveE_lists {x:List Ent} {a b:List (Option Rn)} (h:lists a=lists b):liveE x a=liveE x b:=by
 funext q
 unfold liveE newE nw;rw [h]
def OfD (w w':World) (ex:Ending) (eps buf keys:Int) (b:List Ent) (l:List (Option Rn)):Prop :=
 ∃ E n,OfR16 eps buf keys b l E n/\((E≠0/\ex=.returned (.tuple #[.pointer none,.int .i64 E]))\/(E=0/\∃ p,ex=.returned (.tuple #[.pointer (some ⟨p,0,none⟩),.int .i64 0])))
end Go.Proofs.YtpoohadckhphpaaGreat
