/- Package store: the writer: a config, entries, runs; Save. -/
import Derived.Laws.AppendOwnNone
import Derived.Test.YtpoohadckhphpaaGreatBTPl
set_option linter.unusedVariables false
set_option maxHeartbeats 8000000
set_option maxRecDepth 10000
open Go.Proofs.Tryz
namespace Go.Proofs.YtpoohadckhphpaaGreat
open Go.RowKit
theorem Wt0.gw {W W':World} {p g:Nat} (h:Wt0 W p g) (gg:Gw W W'):Wt0 W' p g :=
 ⟨(
  gg.below.block _ (Array.getElem?_eq_some_iff.1 h.box).1).trans h.box,fun j u hu=>by
  have:=h.row j u hu
  rw [Addr.add_lit] at this ⊢;exact (gg.cell _ _ h.gl).trans this,Nat.lt_of_lt_of_le h.gl gg.size⟩
theorem WtStep.blk {W W':World} {p:Nat} {S:Nat->Prop} {l:List Int} (h:WtStep W W' p S l) {b:Nat} (bl:b<W.heap.size) (nb:¬ S b):W'.heap[b]?=W.heap[b]?:=by
 obtain ⟨S',_,G,_⟩:=h;exact G.block b bl nb
theorem WtStep.size {W W':World} {p:Nat} {S:Nat->Prop} {l:List Int} (h:WtStep W W' p S l):W.heap.size<=W'.heap.size:=by
 obtain ⟨S',_,G,_⟩:=h;exact G.size
theorem tconfig {W:World} {p g:Nat} (h:Wt0 W p g) (eps buf keys:Int) (e0:0<=eps/\eps<9223372036854775808) (b0:0<=buf/\buf<9223372036854775808) (k0:0<=keys/\keys<9223372036854775808) :
  Calls prog 28 #[.pointer (some ⟨p,0,none⟩),.agg #[.int .i64 eps,.int .i64 buf,.int .i64 keys]] W fun e W'=>e=.returned (.tuple #[])/\WtStep W W' p (fun q=>q=p) (cfgB eps buf keys):=by
 have pl:p<W.heap.size:=(Array.getElem?_eq_some_iff.1 h.box).1;have b9:(W.alloc (.cells #[.int .i64 eps,.int .i64 buf,.int .i64 keys] 35)).heap[W.heap.size]?=some (.cells #[.int .i64 eps,.int .i64 buf,.int .i64 keys] 35 (0,0)):=heap_alloc_new W _;have C1:Hid _:=tcount0 (h.gw ((Gw.refl W).alloc #[.int .i64 eps,.int .i64 buf,.int .i64 keys] 35)) eps e0.1 e0.2;have G0:Hid (Gs (fun q=>q=p) W (W.alloc (.cells #[.int .i64 eps,.int .i64 buf,.int .i64 keys] 35))):=((Gw.refl W).alloc _ _).gs _
 have np:¬ W.heap.size=p:=by omega
 have sz:W.heap.size<(W.alloc (.cells #[.int .i64 eps,.int .i64 buf,.int .i64 keys] 35)).heap.size:=by simp
 obtain ⟨c0,c1,c2⟩:=ent_cells b9;clear h;go_enter func28,ntmps28;go_wp2_with fail;generalize W.alloc (.cells #[.int .i64 eps,.int .i64 buf,.int .i64 keys] 35)=wa at *;refine Calls.mono C1.out ?_;rintro e w2 ⟨rfl,R⟩;have hb2:=(R.blk sz np).trans b9;have s2:=R.size;have R2:Hid (WtStep wa w2 p (fun q=>q=p) (headT++num8 eps)):=R
 have N2:Hid (∃ S2,Wt w2 p S2 (headT++num8 eps)/\Gs (fun q=>q=p) wa w2/\∀ q,S2 q->q=p\/wa.heap.size<=q):=R
 obtain ⟨S2,W2,G2,B2⟩:=N2.out;have C2:Hid _:=tcount W2 buf b0.1 b0.2 (by rw [List.length_append,num8_len];simp [headT])
 have GB2:Hid (Gs (fun q=>q=p) wa w2/\∀ q,S2 q->q=p\/wa.heap.size<=q):=⟨G2,B2⟩
 have nb2:¬ S2 W.heap.size:=fun x=>by have:=B2 _ x;omega
 obtain ⟨c3,c4,c5⟩:=ent_cells hb2;have sl2:W.heap.size<w2.heap.size:=by omega
 clear R C1 R2 N2 W2 G2 B2 c0 c1 c2 b9;go_wp2_with fail;refine Calls.mono C2.out ?_;rintro e w3 ⟨rfl,R⟩;have hb3:=(R.blk sl2 nb2).trans hb2;have s3:=R.size;have N3:Hid (WtStep wa w3 p (fun q=>q=p) (headT++num8 eps++num8 buf)):=.after GB2.out.1 GB2.out.2 R
 obtain ⟨S3,W3,G3,B3⟩:=N3.out;have C3:Hid _:=tcount W3 keys k0.1 k0.2 (by rw [List.length_append,List.length_append,num8_len,num8_len];simp [headT])
 have GB3:Hid (Gs (fun q=>q=p) wa w3/\∀ q,S3 q->q=p\/wa.heap.size<=q):=⟨G3,B3⟩
 obtain ⟨d3,d4,d5⟩:=ent_cells hb3;have sl3:W.heap.size<w3.heap.size:=by omega
 clear R C2 N3 W3 G3 B3 c3 c4 c5 hb2 nb2 GB2;go_wp2_with fail;refine Calls.mono C3.out ?_;rintro e w4 ⟨rfl,R⟩;have RES:Hid (WtStep W w4 p (fun q=>q=p) (cfgB eps buf keys)):=.after G0.out (fun q hq=>.inl hq) (.after GB3.out.1 GB3.out.2 R)
 clear R C3 GB3 d3 d4 d5 hb3;go_wp2_with fail;go_end0;exact ⟨rfl,RES.out⟩
theorem tentries {W:World} {p:Nat} {S:Nat->Prop} {l:List Int} (h:Wt W p S l) (ao:Option Addr) (c:Nat) (b:List Ent) (he:EL W ao b) (ab:∀ a,ao=some a->0<b.length->¬ S a.block) (hb:b.length<=4000000) (hl:l.length<=140000000000000) :
  Calls prog 30 #[.pointer (some ⟨p,0,none⟩),.slice ao b.length c] W fun e W'=>e=.returned (.tuple #[])/\WtStep W W' p S (l++entlB b):=by
 have HL:Hid (l.length<=140000000000000):=hl;have HE:Hid (EL W ao b):=he;have AB:Hid (∀ a,ao=some a->0<b.length->¬ S a.block):=ab;have NU:Hid (Calls prog 56 #[.pointer (some ⟨p,0,none⟩),.int .i64 (b.length:Int)] W fun e W'=>e=.returned (.tuple #[])/\WtStep W W' p S (l++num8 (b.length:Int))):=tcount h _ (by omega) (by omega) (by omega)
 clear h he ab hl;obtain ⟨n,hn⟩:∃ n,b.length=n:=⟨_,rfl⟩;have LN:Hid (b.length=n):=hn;rw [hn] at NU hb;rw [hn];clear hn;go_enter func30,ntmps30;go_wp2_with fail;refine NU.out.mono ?_;rintro e w2 ⟨rfl,R⟩;have RR:Hid (WtStep W w2 p S (l++(num8 (n:Int)++entsB (ek b) (ev b) (eg b) 0))):=by
  show WtStep _ _ _ _ _;simpa [entsB] using R
 clear R NU;go_wp2_with fail;go_loopg [12] n (fun gg s12 wr=>∃ i:Nat,s12=.int .i64 i/\i<=n/\n-i<=gg/\Hid (WtStep W wr p S (l++(num8 (n:Int)++entsB (ek b) (ev b) (eg b) i))))
 case atStart=>exact ⟨0,rfl,Nat.zero_le _,by omega,RR⟩
 case round =>
  clear RR;obtain ⟨i,rfl,h1,h2,RI⟩:=hrel;by_cases hlt:i<n
  ·obtain ⟨sb,sf,rfl,hsb,hc⟩:=HE.out.cells (by rw [LN.out];omega)
   have q0:=hc i (by rw [LN.out];exact hlt)
   have ok:=HE.out.ok (i:=i) (by rw [LN.out];exact hlt)
   have sS:=AB.out _ rfl (by rw [LN.out];omega)
   have kp:∀ o,wr.cell? ⟨sb,o,none⟩=W.cell? ⟨sb,o,none⟩:=fun o=>World.cell?_of_block (a:=⟨sb,o,none⟩) (RI.out.blk hsb sS)
   have d0:wr.cell? ⟨sb,sf+i*3,none⟩=some (.int .u64 (ek b i)):=(kp _).trans q0.1;have d1:wr.cell? ⟨sb,sf+i*3+1,none⟩=some (.int .u64 (ev b i)):=(kp _).trans q0.2.1;have d2:wr.cell? ⟨sb,sf+i*3+2,none⟩=some (.bool (eg b i)):=(kp _).trans q0.2.2;obtain ⟨S1,W1,G1,B1⟩:=RI.out;have EB:Hid (entsB (ek b) (ev b) (eg b) (i+1)=entsB (ek b) (ev b) (eg b) i++entB (ek b i) (ev b i) (eg b i)):=entsB_succ _ _ _ i;have el:=entsB_len_le (ek b) (ev b) (eg b) i;have ll:(l++(num8 (n:Int)++entsB (ek b) (ev b) (eg b) i)).length<=140737488354000:=by
    rw [List.length_append,List.length_append,num8_len];have:=HL.out;omega
   have k0:0<=ek b i/\ek b i<18446744073709551616:=ok.1;have v0:0<=ev b i/\ev b i<18446744073709551616:=ok.2;generalize ek b i=ki at d0 k0 EB;generalize ev b i=vi at d1 v0 EB;generalize eg b i=gi at d2 EB;have CE:Hid (Calls prog 57 #[.pointer (some ⟨p,0,none⟩),.agg #[.int .u64 ki,.int .u64 vi,.bool gi]] (wr.alloc (.cells #[.int .u64 ki,.int .u64 vi,.bool gi] 81)) fun e W'=>e=.returned (.tuple #[])/\WtStep W W' p S (l++(num8 (n:Int)++entsB (ek b) (ev b) (eg b) (i+1)))):=(tentry (W1.gw ((Gw.refl wr).alloc #[.int .u64 ki,.int .u64 vi,.bool gi] 81)) ki vi gi k0.1 k0.2 v0.1 v0.2 ll).mono fun e w' ⟨a,t⟩=>⟨a,by
    have:=WtStep.after G1 B1 (WtStep.after (((Gw.refl wr).alloc _ _).gs S1) (fun q hq=>.inl hq) t)
    rw [EB.out];rw [List.append_assoc,List.append_assoc] at this;exact this⟩
   clear hc q0 ok sS kp W1 G1 B1 el ll RI k0 v0 EB;go_wp2_with fail;refine CE.out.mono ?_;rintro e w7 ⟨rfl,P7⟩;have RES:Hid (WtStep W w7 p S (l++(num8 (n:Int)++entsB (ek b) (ev b) (eg b) (i+1)))):=P7;clear P7 CE d0 d1 d2;go_wp2_with fail;go_roundg (n-(i+1))
   case measure=>omega
   case rel=>exact ⟨i+1,by go_num,by omega,Nat.le_refl _,RES⟩
  ·have ei:i=n:=by omega
   subst ei;have RES:Hid (WtStep W wr p S (l++entlB b)):=by
    unfold entlB;rw [LN.out];exact RI.out
   clear RI;go_wp2_with fail;go_end0;exact ⟨rfl,RES.out⟩
theorem wpList_append_srcat {P:Program} (w:World) {ops:Array Oper} {rest:List Oper} {o:Oper} {a:Act} {Q:Exit->Act->World->Prop} (hgd:o.guard=none) (s x:Operand) (t:TypeId)
  (ho:o.op=.call { callee:=.builtin .append,args:=#[s,x],argTypes:=#[t,t] })
  (base:Nat) (e:TypeId) (i:TypeInfo) (z:Value) (size bytes:Nat) (ht:P.underlying t=some (.slice e)) (hi:P.info? e=some i) (hz:i.zero=some z)
  (hsize:i.size=size) (hby:i.bytes=bytes) (hzs:z.cells.size=size) (hsz:0<size)
  (v:Value) (n:Nat) (xs:List Value) (hs:a.eval s=v) (hown:w.ownsRow base e size v n xs)
  (ao:Option Addr) (m c:Nat) (news:List Value) (hx:a.eval x=.slice ao m c) (hnone:ao=none->m=0/\c=0) (hl:news.length=m*size) (hnews:∀ ad,ao=some ad->∀ j u,news[j]?=some u->w.cell? (ad.add j)=some u) (h1:∀ u∈news,u.oneCell'=true)
  (h63:n+m<=maxLen) (hbytes:(n+m)*bytes<=140737488355328) (hbase:base<=w.heap.size)
  (h:∀ v' w',w'.ownsRow base e size v' (n+m) (xs++news)->w.grownBy w' v.ownBlock->(v'.ownBlock=v.ownBlock\/v'.ownBlock=some w.heap.size)->wpList P ops Q rest (a.put o.dst v') w'):wpList P ops Q (o::rest) a w:=by
 cases ao with
 | some ad=>exact wpList_append_own_at w hgd s x t ho base e i z size bytes ht hi hz hsize hby hzs hsz v n xs hs hown ad m c news hx hl (hnews ad rfl) h1 h63 hbytes hbase fun v' w' a b _ d=>h v' w' a b d
 | none =>
  obtain ⟨rfl,rfl⟩:=hnone rfl;have hn:news=[]:=List.eq_nil_of_length_eq_zero (by simpa using hl)
  subst hn;exact wpList_append_own_none hgd s x t ho base e i size ht hi v n xs hs hown hx (h v w (by simpa using hown) (World.grownBy.refl _ _) (.inl rfl))
theorem own_src {w:World} {base n:Nat} {ao:Option Addr} {c:Nat} {xs:List Value} {e:TypeId} (h:w.ownsRow base e 1 (.slice ao n c) n xs):(ao=none->n=0/\c=0)/\∀ ad,ao=some ad->∀ j u,xs[j]?=some u->w.cell? (ad.add j)=some u:=by
 refine ⟨fun e=>?_,fun ad e=>?_⟩
 ·rcases h.2 with ⟨x,z⟩ | ⟨g,cap,cur,x,_⟩
  ·injection x with x1 x2 x3
   exact ⟨z,x3⟩
  ·injection x with x1 x2 x3
   rw [e] at x1;cases x1
 ·subst e
  rcases h.2 with ⟨x,z⟩ | ⟨g,cap,cur,x,_⟩
  ·cases x
  ·injection x with x1 x2 x3
   cases x1
   exact h.cells (g:=g) rfl
theorem clsB_take (rs:List (Option Rn)) (i:Nat):(clsB (rs.take i)).length<=(clsB rs).length:=by
 have:clsB rs=clsB (rs.take i)++clsB (rs.drop i):=by
  unfold clsB;rw [<-List.flatMap_append,List.take_append_drop]
 rw [this,List.length_append];omega
theorem truns {HR:HRt} (H:RunC HR) {W:World} {p:Nat} {S:Nat->Prop} {l:List Int} (h:Wt W p S l) (ao:Option Addr) (c:Nat) (rs:List (Option Rn)) (hp:PR HR W ao rs) (ab:∀ a,ao=some a->0<rs.length->¬ S a.block) (rb:∀ r,some r∈rs->∀ q,r.S q->¬ S q) (te:∀ r,some r∈rs->∀ lv∈r.L,∀ s∈lv,0<=s.te) (hr:rs.length<=40) (hl:l.length+(clsB rs).length<=140000000000) :
  Calls prog 32 #[.pointer (some ⟨p,0,none⟩),.slice ao rs.length c] W fun e W'=>e=.returned (.tuple #[])/\WtStep W W' p S (l++(num8 (rs.length:Int)++clsB rs)):=by
 have HL:Hid (l.length+(clsB rs).length<=140000000000):=hl;have HH:Hid (RunC HR):=H;have HP:Hid (PR HR W ao rs):=hp;have AB:Hid (∀ a,ao=some a->0<rs.length->¬ S a.block):=ab;have RB:Hid (∀ r,some r∈rs->∀ q,r.S q->¬ S q):=rb;have TE:Hid (∀ r,some r∈rs->∀ lv∈r.L,∀ s∈lv,0<=s.te):=te;obtain ⟨ii,hii,iz,is,iby⟩:=info_parts info_b;have NU:Hid (Calls prog 56 #[.pointer (some ⟨p,0,none⟩),.int .i64 (rs.length:Int)] W fun e W'=>e=.returned (.tuple #[])/\WtStep W W' p S (l++num8 (rs.length:Int))):=tcount h _ (by omega) (by omega) (by omega)
 clear h hp ab rb te hl H;obtain ⟨n,hn⟩:∃ n,rs.length=n:=⟨_,rfl⟩;have LN:Hid (rs.length=n):=hn;rw [hn] at NU hr;rw [hn];clear hn;go_enter func32,ntmps32;go_wp2_with fail;refine NU.out.mono ?_;rintro e w2 ⟨rfl,R⟩;have RR:Hid (WtStep W w2 p S (l++(num8 (n:Int)++clsB (rs.take 0)))):=by
  show WtStep _ _ _ _ _;simpa [clsB] using R
 clear R NU;go_wp2_with fail;go_loopg [13] n (fun gg s13 wr=>∃ i:Nat,s13=.int .i64 i/\i<=n/\n-i<=gg/\Hid (WtStep W wr p S (l++(num8 (n:Int)++clsB (rs.take i)))))
 case atStart=>exact ⟨0,rfl,Nat.zero_le _,by omega,RR⟩
 case round =>
  clear RR;obtain ⟨i,rfl,h1,h2,RI⟩:=hrel;by_cases hlt:i<n
  ·obtain ⟨sb,sf,rfl,hsb,hc⟩:=HP.out.cells (by rw [LN.out];omega)
   have hi:i<rs.length:=by rw [LN.out];exact hlt
   have sS:=AB.out _ rfl (by rw [LN.out];omega)
   have d0:wr.cell? ⟨sb,sf+i,none⟩=some (ptr (rs.getD i none)):=(World.cell?_of_block (a:=⟨sb,sf+i,none⟩) (RI.out.blk hsb sS)).trans (hc i hi);have TK:Hid (clsB (rs.take (i+1))=clsB (rs.take i)++clB (rs.getD i none)):=by
    show _=_;rw [take_rs hi,clsB_snoc]
   have ll:(l++(num8 (n:Int)++clsB (rs.take i))++clB (rs.getD i none)).length<=140000000008:=by
    have a:=clsB_take rs (i+1);rw [TK.out,List.length_append] at a;have:=HL.out;rw [List.length_append,List.length_append,List.length_append,num8_len];omega
   obtain ⟨S1,W1,G1,B1⟩:=RI.out;have GB:Hid (Gs S W wr/\∀ q,S1 q->S q\/W.heap.size<=q):=⟨G1,B1⟩;have W1H:Hid (Wt wr p S1 (l++(num8 (n:Int)++clsB (rs.take i)))):=W1;have TAIL:Hid (∀ (w3 w4:World) (z:List Int),Gw wr w3->clB (rs.getD i none)=num8 (z.length:Int)++z->WtStep w3 w4 p S1 (l++(num8 (n:Int)++clsB (rs.take i))++num8 (z.length:Int))->∃ (S4:Nat->Prop) (vo:Option Addr) (nn cap:Nat),nn+z.length<=140000000008/\w4.cell? ⟨p,0,none⟩=some (.slice vo nn cap)/\w4.ownsRow 0 5 1 (.slice vo nn cap) nn (i8 (l++(num8 (n:Int)++clsB (rs.take i))++num8 (z.length:Int)))/\p<w4.heap.size/\∀ v' w5,w5.ownsRow 0 5 1 v' (nn+z.length) (i8 (l++(num8 (n:Int)++clsB (rs.take i))++num8 (z.length:Int))++i8 z)->w4.grownBy w5 (Value.slice vo nn cap).ownBlock->(v'.ownBlock=(Value.slice vo nn cap).ownBlock\/v'.ownBlock=some w4.heap.size)->(w5.cell? ⟨p,0,none⟩=some (.slice vo nn cap)/\w5.frozen? ⟨p,0,none⟩=false/\p<w5.heap.size)/\WtStep W (w5.setCell ⟨p,0,none⟩ v') p S (l++(num8 (n:Int)++clsB (rs.take (i+1))))):=fun w3 w4 z g3 ez st=>by
    obtain ⟨S4,⟨vo,cap,hR⟩,G4,B4⟩:=st;have e1:WtStep wr w4 p S1 (l++(num8 (n:Int)++clsB (rs.take i))++num8 (z.length:Int)):=.after (g3.gs S1) (fun q hq=>.inl hq) ⟨S4,⟨vo,cap,hR⟩,G4,B4⟩
    obtain ⟨S5,W5,G5,B5⟩:=e1;have pl:p<w4.heap.size:=(Array.getElem?_eq_some_iff.1 hR.1).1;refine ⟨S4,vo,_,cap,?_,(rd_cell hR.1).1,hR.2.1,pl,fun v' w5 r1 r2 r4=>?_⟩
    ·have:=ll
     rw [ez] at this;simp only [List.length_append,num8_len] at this ⊢;omega
    ·have b5:=(r2.block p pl (fun e=>hR.2.2.1 p e.symm rfl)).trans hR.1
     refine ⟨⟨(rd_cell b5).1,(rd_cell b5).2,(Array.getElem?_eq_some_iff.1 b5).1⟩,?_⟩;have st5:=Wt.put hR (Gw.refl w4) r1 r2 r4;have e2:WtStep w3 (w5.setCell ⟨p,0,none⟩ v') p S1 _:=.after G4 B4 st5;have e3:=WtStep.after G1 B1 (WtStep.after (g3.gs S1) (fun q hq=>.inl hq) e2)
     rw [TK.out,ez];rw [List.append_assoc,List.append_assoc,List.append_assoc] at e3;exact e3
   rcases cases_rs rs i with ho | ⟨r,ho⟩
   ·rw [ho] at d0 TAIL ll
    have d0':wr.cell? ⟨sb,sf+i,none⟩=some (.pointer none):=d0;have C4:Hid _:=tcount W1 0 (by decide) (by decide) (by rw [List.length_append,List.length_append] at ll;rw [List.length_append];omega)
    clear d0 hc W1 G1 B1 sS ll RI;go_wp2_with fail;refine Calls.mono C4.out ?_;rintro e w4 ⟨rfl,R4⟩;obtain ⟨z,hz⟩:∃ z:List Int,z=[]:=⟨_,rfl⟩;have ZL:Hid (z.length=0):=by show _=_;rw [hz];rfl
    have ez:clB none=num8 (z.length:Int)++z:=by rw [hz];rfl
    have R4':WtStep wr w4 p S1 (l++(num8 (n:Int)++clsB (rs.take i))++num8 (z.length:Int)):=by rw [ZL.out];exact R4
    obtain ⟨S4,vo,nn,cap,n4,c4,o4,p4,FIN'⟩:=TAIL.out wr w4 z (Gw.refl _) ez R4';generalize l++(num8 (n:Int)++clsB (rs.take i))++num8 (z.length:Int)=y at o4 FIN';rw [ZL.out] at n4 FIN';have e8:i8 z=[]:=by rw [hz];rfl
    rw [e8] at FIN';have O4:Hid (w4.ownsRow 0 5 1 (.slice vo nn cap) nn (i8 y)):=o4;have FIN:Hid (∀ v' w5,w5.ownsRow 0 5 1 v' (nn+0) (i8 y++[])->w4.grownBy w5 (Value.slice vo nn cap).ownBlock->(v'.ownBlock=(Value.slice vo nn cap).ownBlock\/v'.ownBlock=some w4.heap.size)->(w5.cell? ⟨p,0,none⟩=some (.slice vo nn cap)/\w5.frozen? ⟨p,0,none⟩=false/\p<w5.heap.size)/\WtStep W (w5.setCell ⟨p,0,none⟩ v') p S (l++(num8 (n:Int)++clsB (rs.take (i+1))))):=FIN';obtain ⟨⟨c5,f5,p5⟩,RES'⟩:=FIN.out (.slice vo nn cap) w4 (by simpa using O4.out) (World.grownBy.refl _ _) (.inl rfl)
    have RES:Hid (WtStep W (w4.setCell ⟨p,0,none⟩ (.slice vo nn cap)) p S (l++(num8 (n:Int)++clsB (rs.take (i+1))))):=RES';clear o4 FIN' R4 R4' C4 TAIL d0' FIN RES' ez e8 hz n4;go_wp2_with (at_builtin;refine wpList_append_own_none rfl _ _ 22 rfl 0 5 ii 1 underlying22 hii _ nn _ rfl O4.out rfl ?_);clear O4;go_wp2_with fail;go_roundg (n-(i+1))
    case measure=>omega
    case rel=>exact ⟨i+1,by go_num,by omega,Nat.le_refl _,RES⟩
   ·have hm:=mem_rs hi ho
    rw [ho] at d0 TAIL ll;have d0':wr.cell? ⟨sb,sf+i,none⟩=some (.pointer (some ⟨r.p,0,none⟩)):=d0;have ra:=(HP.out.runs r hm).keep HH.out.kp (w':=wr) fun q hq=>G1.block q (HH.out.kp.lt (HP.out.runs r hm).h q hq) (RB.out r hm q hq)
    have PU:Hid _:=jput HH.out ra.h (fun i hi=>by
     have:=ra.bd _ (List.getElem_mem hi)
     unfold ek ev;rw [getD_lt hi];exact this) (TE.out r hm)
    have ez:clB (some r)=num8 ((putB r.eps (ek r.l) (ev r.l) (eg r.l) r.l.length r.L).length:Int)++putB r.eps (ek r.l) (ev r.l) (eg r.l) r.l.length r.L:=rfl;obtain ⟨z,hz⟩:∃ z,putB r.eps (ek r.l) (ev r.l) (eg r.l) r.l.length r.L=z:=⟨_,rfl⟩;have EZ:Hid (clB (some r)=num8 (z.length:Int)++z):=by rw [hz] at ez;exact ez
    rw [EZ.out] at ll;simp only [List.length_append,num8_len] at ll;have lx:(l++(num8 (n:Int)++clsB (rs.take i))).length<=140000000008:=by simp only [List.length_append,num8_len];omega
    rw [hz] at PU;obtain ⟨zl,hzl⟩:∃ k,z.length=k:=⟨_,rfl⟩;have ZL:Hid (z.length=zl):=hzl;have zb:zl<=140000000008:=by omega
    rw [hzl] at PU;generalize r.p=rp at d0' PU;have wl:Hid (∀ q,S1 q->q<wr.heap.size):=W1.lt;clear d0 hc W1 G1 B1 sS ll RI ez hz hzl ra hm;go_wp2_with fail;refine Calls.mono PU.out ?_;rintro e w3 ⟨⟨bo,bc,rfl,bl3⟩,g3⟩;have G3:Hid (Gw wr w3):=g3;have C4:Hid _:=tcount (W1H.out.gw g3) (zl:Int) (by omega) (by omega) (by omega)
    have B3:Hid (BL w3 wr.heap.size (.slice bo zl bc) z):=bl3;clear g3 bl3 PU d0';go_wp2_with fail;refine Calls.mono C4.out ?_;rintro e w4 ⟨rfl,R4⟩;rw [<-ZL.out] at R4;obtain ⟨S4,vo,nn,cap,n4,c4,o4,p4,FIN'⟩:=TAIL.out w3 w4 z G3.out EZ.out R4;generalize l++(num8 (n:Int)++clsB (rs.take i))++num8 (z.length:Int)=y at o4 FIN';have O4:Hid (w4.ownsRow 0 5 1 (.slice vo nn cap) nn (i8 y)):=o4;have b4:w4.ownsRow wr.heap.size 5 1 (.slice bo zl bc) zl (i8 z):=by
     have h9:w3.ownsRow wr.heap.size 5 1 (.slice bo zl bc) zl (i8 z):=by have:=B3.out;unfold BL at this;rw [ZL.out] at this;exact this
     exact own_kept h9 fun q hq=>by
      have:=World.ownsRow.lt h9 q hq
      exact R4.blk this.2 (fun x=>by have:=wl.out q x;omega)
    obtain ⟨s1,s2⟩:=own_src b4;have SR1:Hid (bo=none->zl=0/\bc=0):=s1;have SR2:Hid (∀ ad,bo=some ad->∀ j u,(i8 z)[j]?=some u->w4.cell? (ad.add j)=some u):=s2;rw [ZL.out] at n4;have FIN:Hid (∀ v' w5,w5.ownsRow 0 5 1 v' (nn+zl) (i8 y++i8 z)->w4.grownBy w5 (Value.slice vo nn cap).ownBlock->(v'.ownBlock=(Value.slice vo nn cap).ownBlock\/v'.ownBlock=some w4.heap.size)->(w5.cell? ⟨p,0,none⟩=some (.slice vo nn cap)/\w5.frozen? ⟨p,0,none⟩=false/\p<w5.heap.size)/\WtStep W (w5.setCell ⟨p,0,none⟩ v') p S (l++(num8 (n:Int)++clsB (rs.take (i+1))))):=by rw [ZL.out] at FIN';exact FIN'
    clear o4 FIN' R4 C4 TAIL b4 s1 s2 B3;go_wp2_with (at_builtin;refine wpList_append_srcat _ rfl _ _ 22 rfl 0 5 ii (.int .u8 0) 1 1 underlying22 hii iz is iby rfl (by decide) _ nn _ rfl O4.out bo zl bc (i8 z) rfl SR1.out (by rw [i8_len,ZL.out,Nat.mul_one]) SR2.out (i8_one _) (by simp only [maxLen];omega) (by omega) (Nat.zero_le _) ?_)
    intro v' w5 r1 r2 r4;obtain ⟨ao',c',rfl⟩:=own_form r1;obtain ⟨⟨c5,f5,p5⟩,RES'⟩:=FIN.out _ w5 r1 r2 r4;have RES:Hid (WtStep W (w5.setCell ⟨p,0,none⟩ (.slice ao' (nn+zl) c')) p S (l++(num8 (n:Int)++clsB (rs.take (i+1))))):=RES';clear RES' r1 r2 r4 FIN O4 SR1 SR2;go_wp2_with fail;go_roundg (n-(i+1))
    case measure=>omega
    case rel=>exact ⟨i+1,by go_num,by omega,Nat.le_refl _,RES⟩
  ·have ei:i=n:=by omega
   subst ei;have RES:Hid (WtStep W wr p S (l++(num8 (i:Int)++clsB rs))):=by
    have:=RI.out
    rw [List.take_of_length_le (by rw [LN.out];exact Nat.le_refl _)] at this
    exact this
   clear RI;go_wp2_with fail;go_end0;exact ⟨rfl,RES.out⟩
theorem PTs.step {w:World} {p2:Nat} {W W':World} {l l':List Int} {S1:Nat->Prop} (a:Wt W p2 S1 l) (b:∀ q,S1 q->w.heap.size<=q) (c:Gw w W) (t:WtStep W W' p2 S1 l'):PTs w p2 W' l' :=
 (PWt.step (base:=W.heap.size) (w4:=W) a b (fun q _ hq=>by omega) (Nat.le_refl _) c t).pw
theorem tsave {HR:HRt} (H:RunC HR) {w:World} {pt:Nat} {F:Nat->Prop} {eps buf keys:Int} {l:List Ent} {rs:List (Option Rn)} {B W_:Int} {live:Nat} (h:HT HR w pt F eps buf keys l rs B W_ live) (lok:∀ e∈l,e.ok) (te:∀ r,some r∈rs->∀ lv∈r.L,∀ s∈lv,0<=s.te) (hn:l.length<=2000000) (t:Nat) (tp:TopR rs t) (hl:(clsB (rs.take t)).length<=100000000000) :
  Calls prog 7 #[.pointer (some ⟨pt,0,none⟩)] w fun e w'=>(∃ bo c,e=.returned (.slice bo (towB eps buf keys l (rs.take t)).length c)/\BL w' w.heap.size (.slice bo (towB eps buf keys l (rs.take t)).length c) (towB eps buf keys l (rs.take t)))/\Gw w w':=by
 have HH:Hid (RunC HR):=H;have HT_:Hid (HT HR w pt F eps buf keys l rs B W_ live):=h;have LOK:Hid (∀ e∈l,e.ok):=lok;have TE:Hid (∀ r,some r∈rs->∀ lv∈r.L,∀ s∈lv,0<=s.te):=te;have TP:Hid (TopR rs t):=tp;have LX:Hid ((clsB (rs.take t)).length<=100000000000):=hl;have t40:t<=40:=by have:=tp.le;rw [h.len] at this;exact this
 have cf:=h.cf;have eb:(0<=eps/\eps<9223372036854775808)/\(0<=buf/\buf<9223372036854775808)/\(0<=keys/\keys<9223372036854775808):=by
  have:=cf.1;have:=cf.2.1;have:=cf.2.2.1
  omega
 have EB:Hid ((0<=eps/\eps<9223372036854775808)/\(0<=buf/\buf<9223372036854775808)/\(0<=keys/\keys<9223372036854775808)):=eb;have CFG:Hid (∀ W,Gw w W->Calls prog 29 #[.pointer (some ⟨pt,0,none⟩)] W fun e w'=>e=.returned (.agg #[.int .i64 eps,.int .i64 buf,.int .i64 keys])/\Gw W w'):=fun W gg=>tcfg16 (HT_.out.gw HH.out.kp gg)
 have BUF:Hid (∀ W,Gw w W->Calls prog 31 #[.pointer (some ⟨pt,0,none⟩)] W fun e w'=>(∃ bo c,e=.returned (.slice bo l.length c)/\EO w' W.heap.size (.slice bo l.length c) l)/\Gw W w'):=fun W gg=>tbuf16 (HT_.out.gw HH.out.kp gg) (by omega)
 have RUN:Hid (∀ W,Gw w W->Calls prog 33 #[.pointer (some ⟨pt,0,none⟩)] W fun e w'=>(∃ (b c:Nat),e=.returned (.slice (some ⟨b,0,none⟩) t c)/\RO w' W.heap.size (.slice (some ⟨b,0,none⟩) t c) (rs.take t))/\Gw W w'):=fun W gg=>(truns16 (HT_.out.gw HH.out.kp gg)).mono fun e w' ⟨⟨t',b,c,a1,a2,a3⟩,a4⟩=>by
  have e1:=a2.one TP.out;subst e1;exact ⟨⟨b,c,a1,a3⟩,a4⟩
 have G0:Hid (Gw w ((w.alloc (.cells hdT4 5 (4,5))).alloc (.cells #[.slice (some ⟨w.heap.size,0,none⟩) 4 4] 69))):=((Gw.refl w).allocF _ _ _).alloc _ _;have P0:Hid (Wt0 ((w.alloc (.cells hdT4 5 (4,5))).alloc (.cells #[.slice (some ⟨w.heap.size,0,none⟩) 4 4] 69)) (w.heap.size+1) w.heap.size):=wt0_new w;have hcv:=conv_headT w;clear h H lok te tp hl cf eb;obtain ⟨ll,hll⟩:∃ k,l.length=k:=⟨_,rfl⟩;have LN:Hid (l.length=ll):=hll;rw [hll] at BUF hn;clear hll;go_enter func7,ntmps7;go_wp2_with fail;generalize ((w.alloc (.cells hdT4 5 (4,5))).alloc (.cells #[.slice (some ⟨w.heap.size,0,none⟩) 4 4] 69))=w0 at G0 P0 ⊢;refine (CFG.out _ G0.out).mono ?_;rintro e w1 ⟨rfl,g1⟩;obtain ⟨p2,hp2⟩:∃ p2,w.heap.size+1=p2:=⟨_,rfl⟩;rw [hp2] at P0;rw [hp2];have PG:Hid (w.heap.size<=p2):=by show _<=_;omega
 have P1:Hid (Wt0 w1 p2 w.heap.size):=P0.out.gw g1;have G1:Hid (Gw w w1):=G0.out.trans g1;clear hp2 g1 P0 G0 CFG;go_wp2_with fail;refine (tconfig P1.out eps buf keys EB.out.1 EB.out.2.1 EB.out.2.2).mono ?_;rintro e w2 ⟨rfl,R⟩;have P2:Hid (PTs w p2 w2 (cfgB eps buf keys)):=PTs.start PG.out G1.out R;have G2:Hid (Gw w w2):=by obtain ⟨_,_,_,x⟩:=P2.out;exact x
 clear R P1 G1;go_wp2_with fail;refine (BUF.out _ G2.out).mono ?_;rintro e w3 ⟨⟨bo,bc,rfl,eo⟩,g3⟩;have EL3:Hid (EL w3 bo l/\∀ a,bo=some a->w2.heap.size<=a.block):=by
  rw [<-LN.out] at eo;refine ⟨eo_el eo LOK.out,fun a ha=>?_⟩
  rcases eo.2 with ⟨x,_⟩ | ⟨g,cap,cur,x,hb,_⟩
  ·injection x with x1
   rw [ha] at x1;cases x1
  ·injection x with x1
   rw [ha] at x1;cases x1;exact hb
 have C3:Hid (Calls prog 30 #[.pointer (some ⟨p2,0,none⟩),.slice bo ll bc] w3 fun e W'=>e=.returned (.tuple #[])/\PTs w p2 W' (cfgB eps buf keys++entlB l)):=by
  obtain ⟨S1,a,b,c⟩:=P2.out;have:=tentries (a.gw g3) bo bc l EL3.out.1 (fun ad e _ x=>by have:=EL3.out.2 ad e;have:=a.lt _ x;omega) (by rw [LN.out];omega) (by rw [cfgB_len];omega)
  rw [LN.out] at this;exact this.mono fun e w' ⟨r,st⟩=>⟨r,PTs.step (a.gw g3) b (c.trans g3) st⟩
 clear eo g3 P2 G2 EL3 BUF;go_wp2_with fail;refine C3.out.mono ?_;rintro e w4 ⟨rfl,P4'⟩;have P4:Hid (PTs w p2 w4 (cfgB eps buf keys++entlB l)):=P4';have G4:Hid (Gw w w4):=by obtain ⟨_,_,_,x⟩:=P4';exact x
 clear P4' C3;go_wp2_with fail;refine (RUN.out _ G4.out).mono ?_;rintro e w5 ⟨⟨rb,rc,rfl,ro⟩,g5⟩;have lt:(rs.take t).length=t:=by rw [List.length_take];have:=TP.out.le;omega
 have C5:Hid (Calls prog 32 #[.pointer (some ⟨p2,0,none⟩),.slice (some ⟨rb,0,none⟩) t rc] w5 fun e W'=>e=.returned (.tuple #[])/\PTs w p2 W' (towB eps buf keys l (rs.take t))):=by
  obtain ⟨S1,a,b,c⟩:=P4.out;have G5:=G4.out.trans g5;have mem:∀ r,some r∈rs.take t->some r∈rs:=fun r hr=>List.mem_of_mem_take hr
  have rbl:w4.heap.size<=rb/\rb<w5.heap.size:=World.ownsRow.lt ro rb rfl;have rp:PR HR w5 (some ⟨rb,0,none⟩) (rs.take t):=by
   rw [<-lt] at ro;exact RO.pr (by simpa [lt] using ro) fun r hr=>(HT_.out.pr r (mem r hr)).gw HH.out.kp G5
  have hll2:(entlB l).length<=1000000000:=by
   unfold entlB;rw [List.length_append,num8_len,LN.out];have:=entsB_len_le (ek l) (ev l) (eg l) ll;omega
  have:=truns HH.out (a.gw g5) (some ⟨rb,0,none⟩) rc (rs.take t) rp (fun ad e _ x=>by cases e;have:=a.lt _ x;have:=rbl.1;dsimp only at *;omega) (fun r hr q hq x=>by have:=b q x;have:=HH.out.kp.lt (HT_.out.pr r (mem r hr)).h q hq;omega) (fun r hr=>TE.out r (mem r hr)) (by rw [lt];exact t40) (by rw [List.length_append,cfgB_len];have:=LX.out;omega)
  rw [lt] at this;exact this.mono fun e w' ⟨r,st⟩=>⟨r,by
   have h9:=PTs.step (a.gw g5) b G5 st;unfold towB;rw [lt];exact h9⟩
 clear ro g5 P4 G4 RUN;go_wp2_with fail;refine C5.out.mono ?_;rintro e w6 ⟨rfl,P6⟩;obtain ⟨S9,⟨vo,cap,b1,b2,b3,b4⟩,sub9,G9⟩:=P6;have RES:Hid (BL w6 w.heap.size (.slice vo (towB eps buf keys l (rs.take t)).length cap) (towB eps buf keys l (rs.take t))/\Gw w w6):=⟨own_up b2 fun q hq=>sub9 q ((b4 q).2 (.inr hq)),G9⟩
 obtain ⟨c0,f0⟩:=rd_cell b1;have pl:p2<w6.heap.size:=(Array.getElem?_eq_some_iff.1 b1).1;clear b1 b2 b3 b4 sub9 G9 C5;obtain ⟨bl,hbl⟩:∃ bl,(towB eps buf keys l (rs.take t)).length=bl:=⟨_,rfl⟩;have HB:Hid ((towB eps buf keys l (rs.take t)).length=bl):=hbl;rw [hbl] at c0;clear hbl;go_wp2_with fail;go_ret;exact ⟨⟨vo,cap,by rw [HB.out];rfl,RES.out.1⟩,RES.out.2⟩
end Go.Proofs.YtpoohadckhphpaaGreat
