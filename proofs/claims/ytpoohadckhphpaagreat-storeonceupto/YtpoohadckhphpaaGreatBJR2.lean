/- Package codec: the reader's lists. -/
import Derived.Test.YtpoohadckhphpaaGreatBJW
import Derived.Test.YtpoohadckhphpaaGreatBJR
import Derived.Test.YtpoohadckhphpaaGreatBPXR
set_option linter.unusedVariables false
set_option maxHeartbeats 16000000
set_option maxRecDepth 20000
open Go.Proofs.Tryz
namespace Go.Proofs.YtpoohadckhphpaaGreat
open Go.RowKit
attribute [local go_sem] run_store_float
theorem made_em (n:Nat) (hn:n<=4000000) (w:World) :
    (Instr.makeSlice 47 (.int .i64 (n:Int)) (.int .i64 (n:Int))).run prog w=.ok (.slice (some ⟨w.heap.size,0,none⟩) n n) (w.alloc (.cells (madeCells #[.int .u64 0,.int .u64 0,.bool false] (n*3)) 81)):=by
  obtain ⟨i,hi,hz,hs,hb⟩:=info_parts info_e;have hr:=run_make (P:=prog) w 47 81 i _ underlying47 hi hz .i64 .i64 (n:Int) (n:Int) (by omega) (Int.le_refl _) (by rw [hb];omega) (by omega)
  rw [hr,hs];have e1:(n:Int).toNat=n:=by omega
  rw [e1];rfl
theorem made_erow (w:World) (n:Nat):(w.alloc (.cells (madeCells #[.int .u64 0,.int .u64 0,.bool false] (n*3)) 81)).rowIs w.heap.size 81 (n*3) (ecell (fun _=>0) (fun _=>0) (fun _=>false)):=by
  have:=World.rowIs_alloc w (madeCells #[.int .u64 0,.int .u64 0,.bool false] (n*3)) 81 (ecell (fun _=>0) (fun _=>0) (fun _=>false)) (fun i hi=>by
    rw [size_madeCells] at hi;have r3:i%3<3:=by omega
    simp only [madeCells];rw [Array.getElem?_map,Array.getElem?_range,if_pos hi];simp only [Option.map_some];show some (#[Value.int .u64 0,.int .u64 0,.bool false][i%3]!)=_;unfold ecell;generalize i%3=r at *
    match r,r3 with
    | 0,_=>rfl
    | 1,_=>rfl
    | 2,_=>rfl)
  rw [size_madeCells] at this;exact this
def put3o (w:World) (b o:Nat) (x y:Int) (z:Bool):World:=((w.setCell ⟨b,o,none⟩ (.int .u64 x)).setCell ⟨b,o+1,none⟩ (.int .u64 y)).setCell ⟨b,o+2,none⟩ (.bool z)
def eT {α:Type} (d:α) (i:Nat) (h:Nat->α) (t:Nat):α:=if t<i then h t else d
theorem erow_put {w:World} {b n i:Nat} {k v:Nat->Int} {g:Nat->Bool} (h:w.rowIs b 81 (n*3) (ecell (eT 0 i k) (eT 0 i v) (eT false i g))) (hi:i<n):(put3o w b (i*3) (k i) (v i) (g i)).rowIs b 81 (n*3) (ecell (eT 0 (i+1) k) (eT 0 (i+1) v) (eT false (i+1) g)):=by
  refine (((h.set (i*3) (.int .u64 (k i))).set (i*3+1) (.int .u64 (v i))).set (i*3+2) (.bool (g i))).congr fun j hj=>?_
  have E:∀ {α:Type} (d:α) (h:Nat->α),eT d (i+1) h i=h i:=fun d h=>by unfold eT;rw [if_pos (by omega)]
  have N:∀ {α:Type} (d:α) (h:Nat->α) (t:Nat),t≠i->eT d (i+1) h t=eT d i h t:=fun d h t ht=>by
    unfold eT;by_cases c:t<i
    · rw [if_pos c,if_pos (by omega)]
    · rw [if_neg c,if_neg (by omega)]
  by_cases e2:j=i*3+2
  · subst e2;rw [if_pos rfl,ecell_2,E]
  · rw [if_neg e2]
    by_cases e1:j=i*3+1
    · subst e1;rw [if_pos rfl,ecell_1,E]
    · rw [if_neg e1]
      by_cases e0:j=i*3
      · subst e0;rw [if_pos rfl,ecell_0,E]
      · rw [if_neg e0]
        have ne:j/3≠i:=by omega
        unfold ecell;rw [N _ _ _ ne,N _ _ _ ne,N _ _ _ ne]
theorem RStep.setN {w w':World} {p:Nat} {S:Nat->Prop} {f:Nat->Int} {m o b:Nat} (h:RStep w w' p S f m o) (hb:w.heap.size<=b) (nb:∀ q,S q->q<w.heap.size) (i:Nat) (v:Value):RStep w (w'.setCell ⟨b,i,none⟩ v) p S f m o:=by
  obtain ⟨u,S',r,s⟩:=h;refine ⟨u.setN hb i v,S',RRd.blks r (by simp) fun q hq=>?_,s⟩
  have:=nb q (s q hq)
  exact Go.Deep.blk_setCell_other _ _ _ _ (by show q≠b;omega)
theorem RStep.put3o {w w':World} {p:Nat} {S:Nat->Prop} {f:Nat->Int} {m o b:Nat} (h:RStep w w' p S f m o) (hb:w.heap.size<=b) (nb:∀ q,S q->q<w.heap.size) (i:Nat) (x y:Int) (z:Bool):RStep w (put3o w' b i x y z) p S f m o:=((h.setN hb nb _ _).setN hb nb _ _).setN hb nb _ _
theorem RStep.gw {w w' w2:World} {p:Nat} {S:Nat->Prop} {f:Nat->Int} {m o:Nat} (h:RStep w w' p S f m o) (g:Gw w' w2):RStep w w2 p S f m o:=by
  obtain ⟨u,S',r,s⟩:=h;exact ⟨u.trans (.of_gw g),S',r.gw g,s⟩
structure Mod (f:Nat->Int) (m:Nat):Prop where
  n1:nF f<=(m-20)/9->nF f<=2000000
  h1:hF f<=(m-lO f)/8->hF f<=2000000
  c1:∀ l,l<hF f->cF f (lOff f (lO f) l)<=(m-(lOff f (lO f) l+8))/24->cF f (lOff f (lO f) l)<=2000000
theorem Mod.few {f:Nat->Int} {m:Nat} (h:m<=16000000):Mod f m:=⟨fun _=>by omega,fun _=>by omega,fun _ _ _=>by omega⟩
def EntOK (f:Nat->Int) (m:Nat):Prop:=(20<=m/\numR f 12 8<=4294967296)/\∀ i,i<nF f->eOff f i+9<=m/\f (eOff f i+8)<=1/\eOff f (i+1)<=m
theorem EntOK.room {f:Nat->Int} {m:Nat} (h:EntOK f m):nF f<=(m-20)/9:=by
  have a:=h.1.1;have e:eOff f (nF f)<=m:=by
    cases hn:nF f with
    | zero=>exact a
    | succ i=>exact (h.2 i (by omega)).2.2
  have:=eOff_ge f (nF f)
  omega
theorem rows_kept {w w':World} {b n:Nat} {t:TypeId} {f:Nat->Value} (h:w.rowIs b t n f) (e:w'.heap[b]?=w.heap[b]?):w'.rowIs b t n f:=by
  obtain ⟨cur,h1,h2⟩:=h;exact ⟨cur,e.trans h1,h2⟩
theorem kF_bd {f:Nat->Int} {m:Nat} (bd:∀ i,i<m->0<=f i/\f i<256) (h:EntOK f m):∀ i,i<nF f->(0<=kF f i/\kF f i<18446744073709551616)/\(0<=vF f i/\vF f i<18446744073709551616):=by
  intro i hi;obtain ⟨h1,h2,h3⟩:=h.2 i hi;have p8:(256:Int)^8=18446744073709551616:=rfl;refine ⟨?_,?_⟩
  · have:=numR_bd (f:=f) (o:=eOff f i) (k:=8) (fun j hj=>bd _ (by omega))
    rw [p8] at this;exact this
  · unfold vF
    by_cases c:f (eOff f i+8)=1
    · rw [if_pos c];decide
    · rw [if_neg c]
      have e:eOff f (i+1)=eOff f i+(if f (eOff f i+8)=1 then 9 else 17):=rfl
      rw [e,if_neg c] at h3;have:=numR_bd (f:=f) (o:=eOff f i+9) (k:=8) (fun j hj=>bd _ (by omega))
      rw [p8] at this;exact this
theorem jkeysof (ao:Option Addr) (n c:Nat) (k v:Nat->Int) (g:Nat->Bool) (hn:n*8<=281474976710656) (w:World) (h:ES w ao n k v g) :
    Calls prog 124 #[.slice ao n c] w fun e w'=>(∃ b,e=.returned (.slice (some ⟨b,0,none⟩) n n)/\w.heap.size<=b/\w'.rowIs b 37 n (fun i=>.int .u64 (k i)))/\Gw w w':=by
  have hmk:=run_make_row' (P:=prog) 103 37 (.int .u64 0) 8 underlying103 info_k rfl .i64 .i64 n (by omega) (by omega)
  have hR:=World.rowIs_made w (.int .u64 0) n 37;have hG:=(Gw.refl w).alloc (madeCells #[.int .u64 0] n) 37;go_enter func124,ntmps124;go_wp2_with fail;generalize w.alloc (.cells (madeCells #[.int .u64 0] n) 37)=w0 at hR hG ⊢;obtain ⟨b,hb⟩:∃ b,b=w.heap.size:=⟨_,rfl⟩;rw [<-hb] at hR ⊢;have hbw:w.heap.size<=b:=by omega
  clear hb hmk;have RR:Aside (w0.rowIs b 37 n (fun _=>.int .u64 0)):=hR
  have GG:Aside (Gw w w0):=hG;clear hR hG;go_loopg [11] n (fun gg s11 wr=>∃ i:Nat,s11=.int .i64 i/\i<=n/\n-i<=gg/\Aside (wr.rowIs b 37 n (fun j=>.int .u64 (if j<i then k j else 0)))/\Aside (Gw w wr))
  case atStart=>exact ⟨0,rfl,Nat.zero_le _,by omega,(show Aside _ from RR.out.congr fun j hj=>by simp),GG⟩
  case round =>
    obtain ⟨i,rfl,h1,h2,R,G⟩:=hrel;by_cases hlt:i<n
    · obtain ⟨b',off,rfl,hb',hc⟩:=(h.gw G.out).cells (by omega)
      obtain ⟨c1,c2,c3⟩:=hc i hlt;have r1:=R.out.cell hlt;have r2:=R.out.frozen i;have r3:=R.out.lt;clear hc h RR GG;generalize hk1:k i=k1 at c1;have Y:Aside (k i=k1):=hk1;clear hk1;generalize v i=v1 at c2;generalize g i=g1 at c3;go_wp2_with fail;go_roundg (n-(i+1))
      case measure=>omega
      case rel =>
        refine ⟨i+1,by go_num,by omega,Nat.le_refl _,(show Aside _ from (((R.out.set i (.int .u64 k1)).alloc _).congr fun j hj=>?_)),(show Aside _ from ((G.out.setCell hbw _).alloc _ _))⟩
        by_cases e:j=i
        · subst e;rw [if_pos rfl,if_pos (by omega),Y.out]
        · rw [if_neg e]
          by_cases q:j<i
          · rw [if_pos q,if_pos (by omega)]
          · rw [if_neg q,if_neg (by omega)]
    · obtain rfl:i=n:=by omega
      go_wp2_with fail;go_ret
      exact ⟨⟨b,rfl,hbw,R.out.congr fun j hj=>by simp [hj]⟩,G.out⟩
theorem jfirsts (ao:Option Addr) (c:Nat) (l:List Sg) (hn:l.length<=4000000) (w:World) (h:GS w ao l) :
    Calls prog 154 #[.slice ao l.length c] w fun e w'=>(∃ b,e=.returned (.slice (some ⟨b,0,none⟩) l.length l.length)/\w.heap.size<=b/\w'.rowIs b 37 l.length (fun i=>.int .u64 (fst8 l i)))/\Gw w w':=by
  have HG:Aside (GS w ao l):=h;clear h;obtain ⟨n,hln⟩:∃ n,l.length=n:=⟨_,rfl⟩;have LN:Aside (l.length=n):=hln;rw [hln] at hn;rw [hln];clear hln;have hmk:=run_make_row' (P:=prog) 103 37 (.int .u64 0) 8 underlying103 info_k rfl .i64 .i64 n (by omega) (by omega)
  have hR:=World.rowIs_made w (.int .u64 0) n 37;have hG:=(Gw.refl w).alloc (madeCells #[.int .u64 0] n) 37;go_enter func154,ntmps154;go_wp2_with fail;generalize w.alloc (.cells (madeCells #[.int .u64 0] n) 37)=w0 at hR hG ⊢;obtain ⟨b,hb⟩:∃ b,b=w.heap.size:=⟨_,rfl⟩;rw [<-hb] at hR ⊢;have hbw:w.heap.size<=b:=by omega
  clear hb hmk;have RR:Aside (w0.rowIs b 37 n (fun _=>.int .u64 0)):=hR
  have GG:Aside (Gw w w0):=hG;clear hR hG;go_loopg [11] n (fun gg s11 wr=>∃ i:Nat,s11=.int .i64 i/\i<=n/\n-i<=gg/\Aside (wr.rowIs b 37 n (fun j=>.int .u64 (if j<i then fst8 l j else 0)))/\Aside (Gw w wr))
  case atStart=>exact ⟨0,rfl,Nat.zero_le _,by omega,(show Aside _ from RR.out.congr fun j hj=>by simp),GG⟩
  case round =>
    obtain ⟨i,rfl,h1,h2,R,G⟩:=hrel;by_cases hlt:i<n
    · obtain ⟨b',off,rfl,hb',hc⟩:=(HG.out.gw G.out).cells (by rw [LN.out];omega)
      have q:=hc i (by rw [LN.out];exact hlt)
      have Y:Aside (fst8 l i=(l.getD i sg0).k):=rfl;generalize l.getD i sg0=s at q Y;obtain ⟨sk,ssl,sic,sfr,ste⟩:=s;have c0:wr.cell? ⟨b',off+i*5,none⟩=some (.int .u64 sk):=q.c0;have c1:wr.cell? ⟨b',off+i*5+1,none⟩=some (.float .f64 ssl):=q.c1;have c2:wr.cell? ⟨b',off+i*5+2,none⟩=some (.float .f64 sic):=q.c2;have c3:wr.cell? ⟨b',off+i*5+3,none⟩=some (.int .i64 sfr):=q.c3;have c4:wr.cell? ⟨b',off+i*5+4,none⟩=some (.int .i64 ste):=q.c4;have Y1:Aside (fst8 l i=sk):=Y.out;have r1:=R.out.cell hlt;have r2:=R.out.frozen i;have r3:=R.out.lt;clear hc RR GG q Y;go_wp2_with fail;go_roundg (n-(i+1))
      case measure=>omega
      case rel =>
        refine ⟨i+1,by go_num,by omega,Nat.le_refl _,(show Aside _ from (((R.out.set i (.int .u64 sk)).alloc _).congr fun j hj=>?_)),(show Aside _ from ((G.out.setCell hbw _).alloc _ _))⟩
        by_cases e:j=i
        · subst e;rw [if_pos rfl,if_pos (by omega),Y1.out]
        · rw [if_neg e]
          by_cases q:j<i
          · rw [if_pos q,if_pos (by omega)]
          · rw [if_neg q,if_neg (by omega)]
    · obtain rfl:i=n:=by omega
      go_wp2_with fail;go_ret
      exact ⟨⟨b,rfl,hbw,R.out.congr fun j hj=>by simp [hj]⟩,G.out⟩
theorem jentries {w:World} {p:Nat} {S:Nat->Prop} {f:Nat->Int} {m:Nat} (hm:m<=140737488355000) (md:Mod f m) (om:12<=m) (bd:∀ i,i<m->0<=f i/\f i<256) (h:Rd w p S f m 12) :
    Calls prog 122 #[.agg #[.pointer (some ⟨p,0,none⟩)]] w fun e w'=>(EntOK f m/\∃ b,e=.returned (.slice (some ⟨b,0,none⟩) (nF f) (nF f))/\w.heap.size<=b/\ES w' (some ⟨b,0,none⟩) (nF f) (kF f) (vF f) (gF f)/\RStep w w' p S f m (eOff f (nF f)))\/(¬ EntOK f m/\e=.panicked (thrown 120)/\Upd p w w'):=by
  have pl:=h.pl;have FZz:Hid (∀ q,S q->q<w.heap.size):=fun q hq=>RRd.lt h q hq
  have UA:Hid (Upd p w (w.alloc (.cells #[.pointer (some ⟨p,0,none⟩)] 186))):=.of_gw ((Gw.refl w).alloc _ _);have IT:=jitems 9 (by omega) (by omega) hm om (h.gw ((Gw.refl w).alloc #[.pointer (some ⟨p,0,none⟩)] 186))
  have b0:(w.alloc (.cells #[.pointer (some ⟨p,0,none⟩)] 186)).heap[w.heap.size]?=some (.cells #[.pointer (some ⟨p,0,none⟩)] 186 (0,0)):=heap_alloc_new w _;have C1:Hid (Calls prog 151 #[.agg #[.pointer (some ⟨p,0,none⟩)],.int .i64 9] (w.alloc (.cells #[.pointer (some ⟨p,0,none⟩)] 186)) fun e w'=>(((20<=m/\numR f 12 8<=4294967296)/\nF f<=(m-20)/9)/\e=.returned (.int .i64 (nF f:Int))/\RStep w w' p S f m 20/\w'.heap[w.heap.size]?=some (.cells #[.pointer (some ⟨p,0,none⟩)] 186 (0,0)))\/(¬ EntOK f m/\e=.panicked (thrown 120)/\Upd p w w')):=IT.mono fun e w' hh=>by
    rcases hh with ⟨a,b,c⟩ | ⟨a,b,c⟩
    · exact .inl ⟨a,b,RStep.after UA.out (fun _ h=>h) c,(c.1.blk _ (by omega) (by simp)).trans b0⟩
    · exact .inr ⟨fun t=>a ⟨t.1,t.room⟩,b,UA.out.trans c⟩
  have MD:Hid (Mod f m):=md;have BDH:Hid (∀ i,i<m->0<=f i/\f i<256):=bd;clear h IT b0 UA md bd;go_enter func122,ntmps122;go_wp2_with fail;refine C1.out.mono ?_;rintro e w2 hh;clear C1;rcases hh with ⟨⟨a1,a2⟩,rfl,R,B2⟩ | ⟨a,rfl,R⟩
  · have A1:Hid (20<=m/\numR f 12 8<=4294967296):=a1
    have n1:=MD.out.n1 a2;obtain ⟨n,hn⟩:∃ n,nF f=n:=⟨_,rfl⟩;have HN:Hid (nF f=n):=hn;rw [hn] at n1 ⊢;have hmk:=made_em n (by omega) w2
    have sz2:w.heap.size<w2.heap.size:=(Array.getElem?_eq_some_iff.1 B2).1;have RR0:Hid ((w2.alloc (.cells (madeCells #[.int .u64 0,.int .u64 0,.bool false] (n*3)) 81)).rowIs w2.heap.size 81 (n*3) (ecell (eT 0 0 (kF f)) (eT 0 0 (vF f)) (eT false 0 (gF f)))):=made_erow w2 n;have ST0:Hid (RStep w (w2.alloc (.cells (madeCells #[.int .u64 0,.int .u64 0,.bool false] (n*3)) 81)) p S f m (eOff f 0)):=R.gw ((Gw.refl w2).alloc _ _);have BX0:Hid ((w2.alloc (.cells (madeCells #[.int .u64 0,.int .u64 0,.bool false] (n*3)) 81)).heap[w.heap.size]?=some (.cells #[.pointer (some ⟨p,0,none⟩)] 186 (0,0))):=(((Gw.refl w2).alloc _ _).below.block _ sz2).trans B2;obtain ⟨b,hb⟩:∃ b,b=w2.heap.size:=⟨_,rfl⟩;have bw:w.heap.size<b:=by omega
    clear R B2 hn a1 a2;go_wp2_with fail;rw [<-hb] at RR0 ⊢;generalize w2.alloc (.cells (madeCells #[.int .u64 0,.int .u64 0,.bool false] (n*3)) 81)=w3 at RR0 ST0 BX0 ⊢;clear hb hmk sz2;go_loopg [10] n (fun gg s10 wr=>∃ i:Nat,s10=.int .i64 i/\i<=n/\n-i<=gg/\Hid (wr.rowIs b 81 (n*3) (ecell (eT 0 i (kF f)) (eT 0 i (vF f)) (eT false i (gF f))))/\Hid (RStep w wr p S f m (eOff f i))/\Hid (wr.heap[w.heap.size]?=some (.cells #[.pointer (some ⟨p,0,none⟩)] 186 (0,0)))/\Hid (eOff f i<=m)/\Hid (∀ t,t<i->eOff f t+9<=m/\f (eOff f t+8)<=1/\eOff f (t+1)<=m))
    case atStart=>exact ⟨0,rfl,Nat.zero_le _,by omega,RR0,ST0,BX0,(show Hid _ from A1.out.1),(show Hid _ from fun t ht=>by omega)⟩
    case round =>
      clear RR0 ST0 BX0;obtain ⟨i,rfl,h1,h2,RI,SI,BI,OI,EI⟩:=hrel;by_cases hlt:i<n
      · obtain ⟨u,Si,ri,subi⟩:=SI.out
        obtain ⟨x0,_⟩:=rd_cell BI.out;have xl:w.heap.size<wr.heap.size:=(Array.getElem?_eq_some_iff.1 BI.out).1;have bl:=RI.out.lt;have KE:Hid (∀ w5,Upd p wr w5->w5.heap[w.heap.size]?=some (.cells #[.pointer (some ⟨p,0,none⟩)] 186 (0,0))/\w5.rowIs b 81 (n*3) (ecell (eT 0 i (kF f)) (eT 0 i (vF f)) (eT false i (gF f)))):=fun w5 u5=>⟨(u5.blk _ (by omega) xl).trans BI.out,rows_kept RI.out (u5.blk _ (by omega) bl)⟩
        have CE:Hid (Calls prog 152 #[.agg #[.pointer (some ⟨p,0,none⟩)]] wr fun e w'=>((eOff f i+9<=m/\f (eOff f i+8)<=1/\eOff f (i+1)<=m)/\e=.returned (.agg #[.int .u64 (kF f i),.int .u64 (vF f i),.bool (gF f i)])/\RStep w w' p S f m (eOff f (i+1))/\Upd p wr w')\/(¬ (eOff f i+9<=m/\f (eOff f i+8)<=1/\eOff f (i+1)<=m)/\e=.panicked (thrown 120)/\Upd p w w')):=(jentry hm OI.out ri).mono fun e w' hq=>by
          rcases hq with ⟨q1,q2,q3⟩ | ⟨q1,q2,q3⟩
          · exact .inl ⟨q1,q2,RStep.after u subi q3,q3.1⟩
          · exact .inr ⟨q1,q2,u.trans q3⟩
        clear u ri subi SI bl;go_wp2_with fail;refine CE.out.mono ?_;rintro e w5 hq;clear CE;rcases hq with ⟨q1,rfl,q3,q4⟩ | ⟨q1,rfl,q3⟩
        · obtain ⟨BX,RW⟩:=KE.out w5 q4
          have RN:Hid ((put3o w5 b (i*3) (kF f i) (vF f i) (gF f i)).rowIs b 81 (n*3) (ecell (eT 0 (i+1) (kF f)) (eT 0 (i+1) (vF f)) (eT false (i+1) (gF f)))):=erow_put RW hlt;have SN:Hid (RStep w (put3o w5 b (i*3) (kF f i) (vF f i) (gF f i)) p S f m (eOff f (i+1))):=q3.put3o (by omega) FZz.out _ _ _ _
          have BN:Hid ((put3o w5 b (i*3) (kF f i) (vF f i) (gF f i)).heap[w.heap.size]?=some (.cells #[.pointer (some ⟨p,0,none⟩)] 186 (0,0))):=by
            show _=_;unfold put3o;rw [Go.Deep.blk_setCell_other _ _ _ _ (show w.heap.size≠b by omega),Go.Deep.blk_setCell_other _ _ _ _ (show w.heap.size≠b by omega),Go.Deep.blk_setCell_other _ _ _ _ (show w.heap.size≠b by omega)]
            exact BX
          have z0:=RW.cell (i:=i*3) (by omega)
          have z1:=RW.cell (i:=i*3+1) (by omega)
          have z2:=RW.cell (i:=i*3+2) (by omega)
          have f0:=RW.frozen (i*3);have f1:=RW.frozen (i*3+1);have f2:=RW.frozen (i*3+2);have bl:=RW.lt;have EN:Hid (∀ t,t<i+1->eOff f t+9<=m/\f (eOff f t+8)<=1/\eOff f (t+1)<=m):=fun t ht=>by
            by_cases c:t=i
            · subst c;exact q1
            · exact EI.out t (by omega)
          have ON:Hid (eOff f (i+1)<=m):=q1.2.2;generalize kF f i=ki at *;generalize vF f i=vi at *;generalize gF f i=gi at *;unfold put3o at RN SN BN;clear RW q1 q3 q4 BX x0 xl RI KE EI;go_wp2_with fail;go_roundg (n-(i+1))
          case measure=>omega
          case rel=>exact ⟨i+1,by go_num,by omega,Nat.le_refl _,RN,SN,BN,ON,EN⟩
        · have FIN:Hid (Upd p w w5):=q3
          have NO:Hid (¬ EntOK f m):=fun t=>q1 (t.2 i (by rw [HN.out];exact hlt))
          clear q1 q3 KE;go_wp2_with fail;exact ⟨rfl,.inr ⟨NO.out,rfl,FIN.out⟩⟩
      · have ei:i=n:=by omega
        subst ei;have EO:EntOK f m:=⟨A1.out,fun t ht=>EI.out t (by rw [HN.out] at ht;exact ht)⟩
        have FIN:Hid (EntOK f m/\ES wr (some ⟨b,0,none⟩) i (kF f) (vF f) (gF f)):=⟨EO,es_of_row (RI.out.congr fun j hj=>ecell_congr (fun t ht=>by unfold eT;rw [if_pos ht,if_pos ht,if_pos ht];exact ⟨rfl,rfl,rfl⟩) j hj) (Nat.le_refl _) (fun t ht=>kF_bd BDH.out EO t (by rw [HN.out];exact ht))⟩
        clear RI EI EO;go_wp2_with fail;go_ret;exact .inl ⟨FIN.out.1,b,by rw [HN.out];rfl,by omega,by rw [HN.out];exact FIN.out.2,by rw [HN.out];exact SI.out⟩
  · have FIN:Hid (Upd p w w2):=R
    have NO:Hid (¬ EntOK f m):=a;clear R a;go_wp2_with fail;exact ⟨rfl,.inr ⟨NO.out,rfl,FIN.out⟩⟩
end Go.Proofs.YtpoohadckhphpaaGreat
namespace Go.Proofs.YtpoohadckhphpaaGreat
open Go.RowKit
attribute [local go_sem] run_store_float
theorem sneed_ok (w:World):Calls prog 18 #[.bool true] w fun e w'=>e=.returned (.tuple #[])/\w'=w:=by
  go_enter func18,ntmps18;go_wp2_with fail;go_end0;exact ⟨rfl,rfl⟩
theorem sneed_bad (w:World):Calls prog 18 #[.bool false] w fun e w'=>e=.panicked (thrown 120)/\w'=w:=by
  go_enter func18,ntmps18;go_wp2_with fail;exact ⟨rfl,rfl,rfl⟩
theorem snumber {w:World} {p:Nat} {S:Nat->Prop} {f:Nat->Int} {m o:Nat} (hm:m<=140737488355000) (om:o<=m) (h:Rd w p S f m o) :
    Calls prog 68 #[.agg #[.pointer (some ⟨p,0,none⟩)]] w fun e w'=>POut (o+8<=m) e (.int .u64 (numR f o 8)) (RStep w w' p S f m (o+8)) (Upd p w w'):=by
  have HR:Hid (Rd (w.alloc (.cells #[.pointer (some ⟨p,0,none⟩)] 44)) p S f m o):=h.gw ((Gw.refl w).alloc _ _);have NU:=octr.number (by omega) HR.out
  have UA:Hid (Upd p w (w.alloc (.cells #[.pointer (some ⟨p,0,none⟩)] 44))):=.of_gw ((Gw.refl w).alloc _ _);by_cases c:o+8<=m
  · have C1:Hid (Calls prog 116 #[.pointer (some ⟨p,0,none⟩)] (w.alloc (.cells #[.pointer (some ⟨p,0,none⟩)] 44)) fun e w'=>e=.returned (.tuple #[.int .u64 (numR f o 8),.int .i64 0])/\RStep w w' p S f m (o+8)):=NU.mono fun e w' hh=>by
      unfold numA at hh;rw [if_neg (by omega),num_sh] at hh
      exact ⟨hh.1,RStep.after UA.out (fun _ h=>h) hh.2.step⟩
    clear h HR NU UA;generalize numR f o 8=N at *;go_enter func68,ntmps68;go_wp2_with fail;refine C1.out.mono ?_;rintro e w2 ⟨rfl,R⟩;have RR:Hid (RStep w w2 p S f m (o+8)):=R;clear R C1;go_wp2_with fail;refine (sneed_ok _).mono ?_;rintro e w3 ⟨rfl,hw⟩;subst hw;go_wp2_with fail;go_ret;exact .inl ⟨c,rfl,RR.out⟩
  · have C1:Hid (Calls prog 116 #[.pointer (some ⟨p,0,none⟩)] (w.alloc (.cells #[.pointer (some ⟨p,0,none⟩)] 44)) fun e w'=>e=.returned (.tuple #[.int .u64 0,.int .i64 100])/\Upd p w w'):=NU.mono fun e w' hh=>by
      unfold numA at hh;rw [if_pos (by omega)] at hh
      exact ⟨hh.1,UA.out.trans hh.2.1⟩
    clear h HR NU UA;generalize numR f o 8=N at *;go_enter func68,ntmps68;go_wp2_with fail;refine C1.out.mono ?_;rintro e w2 ⟨rfl,R⟩;have RR:Hid (Upd p w w2):=R;clear R C1;go_wp2_with fail;refine (sneed_bad _).mono ?_;rintro e w3 ⟨rfl,hw⟩;subst hw;go_wp2_with fail;exact ⟨rfl,.inr ⟨c,rfl,RR.out⟩⟩
theorem scount {w:World} {p:Nat} {S:Nat->Prop} {f:Nat->Int} {m o:Nat} (most:Int) (q0:0<=most) (q1:most<9223372036854775808) (hm:m<=140737488355000) (om:o<=m) (h:Rd w p S f m o) :
    Calls prog 37 #[.agg #[.pointer (some ⟨p,0,none⟩)],.int .i64 most] w fun e w'=>POut (o+8<=m/\numR f o 8<=most) e (.int .i64 (numR f o 8)) (RStep w w' p S f m (o+8)) (Upd p w w'):=by
  have HR:Hid (Rd (w.alloc (.cells #[.pointer (some ⟨p,0,none⟩)] 44)) p S f m o):=h.gw ((Gw.refl w).alloc _ _);have NU:=octr.count most (by omega) q1 (by omega) HR.out
  have UA:Hid (Upd p w (w.alloc (.cells #[.pointer (some ⟨p,0,none⟩)] 44))):=.of_gw ((Gw.refl w).alloc _ _);by_cases c:o+8<=m/\numR f o 8<=most
  · have C1:Hid (Calls prog 67 #[.pointer (some ⟨p,0,none⟩),.int .i64 most] (w.alloc (.cells #[.pointer (some ⟨p,0,none⟩)] 44)) fun e w'=>e=.returned (.tuple #[.int .i64 (numR f o 8),.int .i64 0])/\RStep w w' p S f m (o+8)):=NU.mono fun e w' hh=>by
      unfold countA at hh;rw [num_sh,if_neg (by omega),if_neg (by omega)] at hh
      exact ⟨hh.1,RStep.after UA.out (fun _ h=>h) hh.2.step⟩
    clear h HR NU UA;generalize numR f o 8=N at *;go_enter func37,ntmps37;go_wp2_with fail;refine C1.out.mono ?_;rintro e w2 ⟨rfl,R⟩;have RR:Hid (RStep w w2 p S f m (o+8)):=R;clear R C1;go_wp2_with fail;refine (sneed_ok _).mono ?_;rintro e w3 ⟨rfl,hw⟩;subst hw;go_wp2_with fail;go_ret;exact .inl ⟨c,rfl,RR.out⟩
  · have C1:Hid (Calls prog 67 #[.pointer (some ⟨p,0,none⟩),.int .i64 most] (w.alloc (.cells #[.pointer (some ⟨p,0,none⟩)] 44)) fun e w'=>(∃ er,e=.returned (.tuple #[.int .i64 0,.int .i64 er])/\(er=0)=False)/\Upd p w w'):=NU.mono fun e w' hh=>by
      unfold countA at hh;rw [num_sh] at hh;by_cases c8:m-o<8
      · rw [if_pos c8] at hh
        exact ⟨⟨100,hh.1,by simp⟩,UA.out.trans hh.2.1⟩
      · rw [if_neg c8,if_pos (by omega)] at hh
        exact ⟨⟨101,hh.1,by simp⟩,UA.out.trans hh.2.1⟩
    clear h HR NU UA;generalize numR f o 8=N at *;go_enter func37,ntmps37;go_wp2_with fail;refine C1.out.mono ?_;rintro e w2 ⟨⟨er,rfl,e0⟩,R⟩;have RR:Hid (Upd p w w2):=R;have e1:(er == 0)=false:=by simpa using e0
    clear R C1 e0;go_wp2_with fail;refine (sneed_bad _).mono ?_;rintro e w3 ⟨rfl,hw⟩;subst hw;go_wp2_with fail;exact ⟨rfl,.inr ⟨c,rfl,RR.out⟩⟩
theorem sword {w:World} {p:Nat} {S:Nat->Prop} {f:Nat->Int} {m:Nat} (s:ByteArray) (hm:m<=140737488355000) (h:Rd w p S f m 0) :
    Calls prog 14 #[.agg #[.pointer (some ⟨p,0,none⟩)],.string s] w fun e w'=>POut (s.size<=m/\∀ i,i<s.size->f i=strB s i) e (.tuple #[]) (RStep w w' p S f m s.size) (Upd p w w'):=by
  have HR:Hid (Rd (w.alloc (.cells #[.pointer (some ⟨p,0,none⟩)] 44)) p S f m 0):=h.gw ((Gw.refl w).alloc _ _);have NU:=octr.word s (by omega) HR.out
  have UA:Hid (Upd p w (w.alloc (.cells #[.pointer (some ⟨p,0,none⟩)] 44))):=.of_gw ((Gw.refl w).alloc _ _);have fz:(fun i=>f (0+i))=f:=funext fun i=>by rw [Nat.zero_add]
  by_cases c:s.size<=m/\∀ i,i<s.size->f i=strB s i
  · have C1:Hid (Calls prog 36 #[.pointer (some ⟨p,0,none⟩),.string s] (w.alloc (.cells #[.pointer (some ⟨p,0,none⟩)] 44)) fun e w'=>e=.returned (.int .i64 0)/\RStep w w' p S f m s.size):=NU.mono fun e w' hh=>by
      unfold wordA at hh;rw [if_neg (by omega),if_pos (by rw [fz];exact c.2)] at hh
      have:=hh.2.step
      rw [Nat.zero_add] at this;exact ⟨hh.1,RStep.after UA.out (fun _ h=>h) this⟩
    have CC:Hid (s.size<=m/\∀ i,i<s.size->f i=strB s i):=c;clear h HR NU UA c fz;go_enter func14,ntmps14;go_wp2_with fail;refine C1.out.mono ?_;rintro e w2 ⟨rfl,R⟩;have RR:Hid (RStep w w2 p S f m s.size):=R;clear R C1;go_wp2_with fail;refine (sneed_ok _).mono ?_;rintro e w3 ⟨rfl,hw⟩;subst hw;go_wp2_with fail;go_end0;exact .inl ⟨CC.out,rfl,RR.out⟩
  · have C1:Hid (Calls prog 36 #[.pointer (some ⟨p,0,none⟩),.string s] (w.alloc (.cells #[.pointer (some ⟨p,0,none⟩)] 44)) fun e w'=>(∃ er,e=.returned (.int .i64 er)/\(er=0)=False)/\Upd p w w'):=NU.mono fun e w' hh=>by
      unfold wordA at hh;by_cases c8:m-0<s.size
      · rw [if_pos c8] at hh
        exact ⟨⟨100,hh.1,by simp⟩,UA.out.trans hh.2.1⟩
      · rw [if_neg c8,if_neg (fun t=>c ⟨by omega,by rw [fz] at t;exact t⟩)] at hh
        exact ⟨⟨101,hh.1,by simp⟩,UA.out.trans hh.2.1⟩
    have CC:Hid (¬ (s.size<=m/\∀ i,i<s.size->f i=strB s i)):=c;clear h HR NU UA c fz;go_enter func14,ntmps14;go_wp2_with fail;refine C1.out.mono ?_;rintro e w2 ⟨⟨er,rfl,e0⟩,R⟩;have RR:Hid (Upd p w w2):=R;have e1:(er == 0)=false:=by simpa using e0
    clear R C1 e0;go_wp2_with fail;refine (sneed_bad _).mono ?_;rintro e w3 ⟨rfl,hw⟩;subst hw;go_wp2_with fail;exact ⟨rfl,.inr ⟨CC.out,rfl,RR.out⟩⟩
theorem sitems {w:World} {p:Nat} {S:Nat->Prop} {f:Nat->Int} {m o:Nat} (most:Int) (q0:0<=most) (q1:most<9223372036854775808) (sz:Nat) (z0:0<sz) (z1:sz<100) (hm:m<=140737488355000) (om:o<=m) (h:Rd w p S f m o) :
    Calls prog 38 #[.agg #[.pointer (some ⟨p,0,none⟩)],.int .i64 most,.int .i64 (sz:Int)] w fun e w'=>POut ((o+8<=m/\numR f o 8<=most)/\cF f o<=(m-(o+8))/sz) e (.int .i64 (cF f o:Int)) (RStep w w' p S f m (o+8)) (Upd p w w'):=by
  have BD:o+8<=m->(cF f o:Int)=numR f o 8:=fun hh=>by
    have b:=RRd.bd h;have:=(numR_bd (f:=f) (o:=o) (k:=8) (fun i hi=>b i (by omega))).1
    unfold cF;omega
  have pl:=h.pl;have CN:=scount most q0 q1 hm om (h.gw ((Gw.refl w).alloc #[.pointer (some ⟨p,0,none⟩)] 44));have UA:Hid (Upd p w (w.alloc (.cells #[.pointer (some ⟨p,0,none⟩)] 44))):=.of_gw ((Gw.refl w).alloc _ _);have bx:(w.alloc (.cells #[.pointer (some ⟨p,0,none⟩)] 44)).cell? ⟨w.heap.size,0,none⟩=some (.pointer (some ⟨p,0,none⟩)):=(rd_cell (heap_alloc_new w _)).1;have BX:Hid (∀ w2,Upd p (w.alloc (.cells #[.pointer (some ⟨p,0,none⟩)] 44)) w2->w2.cell? ⟨w.heap.size,0,none⟩=some (.pointer (some ⟨p,0,none⟩))/\w.heap.size<w2.heap.size):=fun w2 u=>⟨(u.cell (by omega) (by simp) 0).trans bx,by have:=u.size;simp at this;omega⟩
  have C1:Hid (Calls prog 37 #[.agg #[.pointer (some ⟨p,0,none⟩)],.int .i64 most] (w.alloc (.cells #[.pointer (some ⟨p,0,none⟩)] 44)) fun e w'=>(w'.cell? ⟨w.heap.size,0,none⟩=some (.pointer (some ⟨p,0,none⟩))/\w.heap.size<w'.heap.size)/\POut (o+8<=m/\numR f o 8<=most) e (.int .i64 (numR f o 8)) (RStep w w' p S f m (o+8)) (Upd p w w')):=CN.mono fun e w' hh=>by
    rcases hh with ⟨a,b,c⟩ | ⟨a,b,c⟩
    · exact ⟨BX.out w' c.1,.inl ⟨a,b,RStep.after UA.out (fun _ h=>h) c⟩⟩
    · exact ⟨BX.out w' c,.inr ⟨a,b,UA.out.trans c⟩⟩
  clear h CN bx BX UA;go_enter func38,ntmps38;go_wp2_with fail;refine C1.out.mono ?_;rintro e w2 ⟨⟨bx,bl⟩,hh⟩;clear C1;rcases hh with ⟨a,rfl,R⟩ | ⟨a,rfl,R⟩
  · have cc:=BD a.1
    rw [<-cc];obtain ⟨u,S',r,sub⟩:=R;have LF:Hid (Calls prog 19 #[.pointer (some ⟨p,0,none⟩)] w2 fun e w'=>e=.returned (.int .i64 ((m-(o+8):Nat):Int))/\w'=w2):=octr.left r
    have RR:Hid (RStep w w2 p S f m (o+8)):=⟨u,S',r,sub⟩;have AA:Hid (o+8<=m/\numR f o 8<=most):=a;have zz:((sz:Int) == 0)=false:=by simp;omega
    have zz':¬ (sz:Int)=0:=by omega
    have zz2:¬ sz=0:=by omega
    obtain ⟨M,hM⟩:∃ M,m-(o+8)=M:=⟨_,rfl⟩;have HM:Hid (m-(o+8)=M):=hM;rw [hM] at LF;have M1:M<=140737488355000:=by omega
    have dv:(M:Int).tdiv (sz:Int)=((M/sz:Nat):Int):=rfl;have dl:M/sz<=M:=Nat.div_le_self _ _;clear hM u r sub a cc BD;obtain ⟨D,hD⟩:∃ D,M/sz=D:=⟨_,rfl⟩;have HD:Hid (M/sz=D):=hD;rw [hD] at dv dl;have wd:IntKind.i64.wrap (D:Int)=(D:Int):=by rw [IntKind.wrap_i64];omega
    obtain ⟨N,hN⟩:∃ N,cF f o=N:=⟨_,rfl⟩;have HN:Hid (cF f o=N):=hN;rw [hN];clear hD hN;go_wp2_with fail;refine LF.out.mono ?_;rintro e w3 ⟨rfl,hw⟩;subst hw;by_cases q:N<=D
    · have tq:decide (N<=D)=true:=by simpa using q
      have QQ:Hid (N<=D):=q;clear LF q;go_wp2_with fail;refine (sneed_ok _).mono ?_;rintro e w4 ⟨rfl,hw⟩;subst hw;go_wp2_with fail;go_ret;exact .inl ⟨⟨AA.out,by rw [HM.out,HD.out,HN.out];exact QQ.out⟩,by rw [HN.out];rfl,RR.out⟩
    · have tq:decide (N<=D)=false:=by simpa using q
      have QQ:Hid (¬ N<=D):=q;clear LF q;go_wp2_with fail;refine (sneed_bad _).mono ?_;rintro e w4 ⟨rfl,hw⟩;subst hw;go_wp2_with fail;exact ⟨rfl,.inr ⟨fun t=>QQ.out (by have:=t.2;rw [HM.out,HD.out,HN.out] at this;exact this),rfl,RR.out.1⟩⟩
  · have RR:Hid (Upd p w w2):=R
    have AA:Hid (¬ (o+8<=m/\numR f o 8<=most)):=a;clear R a;go_wp2_with fail;exact ⟨rfl,.inr ⟨fun t=>AA.out t.1,rfl,RR.out⟩⟩
theorem soctet {w:World} {p:Nat} {S:Nat->Prop} {f:Nat->Int} {m o:Nat} (most:Int) (q0:0<=most) (q1:most<256) (hm:m<=140737488355000) (om:o<=m) (h:Rd w p S f m o) :
    Calls prog 69 #[.agg #[.pointer (some ⟨p,0,none⟩)],.int .u8 most] w fun e w'=>POut (o+1<=m/\f o<=most) e (.int .u8 (f o)) (RStep w w' p S f m (o+1)) (Upd p w w'):=by
  have HR:Hid (Rd (w.alloc (.cells #[.pointer (some ⟨p,0,none⟩)] 44)) p S f m o):=h.gw ((Gw.refl w).alloc _ _);have NU:=octr.byte most q0 q1 (by omega) HR.out
  have UA:Hid (Upd p w (w.alloc (.cells #[.pointer (some ⟨p,0,none⟩)] 44))):=.of_gw ((Gw.refl w).alloc _ _);unfold byteA at NU;simp only [Nat.add_zero] at NU;by_cases c:o+1<=m/\f o<=most
  · have C1:Hid (Calls prog 117 #[.pointer (some ⟨p,0,none⟩),.int .u8 most] (w.alloc (.cells #[.pointer (some ⟨p,0,none⟩)] 44)) fun e w'=>e=.returned (.tuple #[.int .u8 (f o),.int .i64 0])/\RStep w w' p S f m (o+1)):=NU.mono fun e w' hh=>by
      rw [if_neg (by omega),if_neg (by omega)] at hh
      exact ⟨hh.1,RStep.after UA.out (fun _ h=>h) hh.2.step⟩
    clear h HR NU UA;generalize f o=N at *;go_enter func69,ntmps69;go_wp2_with fail;refine C1.out.mono ?_;rintro e w2 ⟨rfl,R⟩;have RR:Hid (RStep w w2 p S f m (o+1)):=R;clear R C1;go_wp2_with fail;refine (sneed_ok _).mono ?_;rintro e w3 ⟨rfl,hw⟩;subst hw;go_wp2_with fail;go_ret;exact .inl ⟨c,rfl,RR.out⟩
  · have C1:Hid (Calls prog 117 #[.pointer (some ⟨p,0,none⟩),.int .u8 most] (w.alloc (.cells #[.pointer (some ⟨p,0,none⟩)] 44)) fun e w'=>(∃ er,e=.returned (.tuple #[.int .u8 0,.int .i64 er])/\(er=0)=False)/\Upd p w w'):=NU.mono fun e w' hh=>by
      by_cases c8:m-o=0
      · rw [if_pos c8] at hh
        exact ⟨⟨100,hh.1,by simp⟩,UA.out.trans hh.2.1⟩
      · rw [if_neg c8,if_pos (by omega)] at hh
        exact ⟨⟨101,hh.1,by simp⟩,UA.out.trans hh.2.1⟩
    clear h HR NU UA;generalize f o=N at *;go_enter func69,ntmps69;go_wp2_with fail;refine C1.out.mono ?_;rintro e w2 ⟨⟨er,rfl,e0⟩,R⟩;have RR:Hid (Upd p w w2):=R;have e1:(er == 0)=false:=by simpa using e0
    clear R C1 e0;go_wp2_with fail;refine (sneed_bad _).mono ?_;rintro e w3 ⟨rfl,hw⟩;subst hw;go_wp2_with fail;exact ⟨rfl,.inr ⟨c,rfl,RR.out⟩⟩
theorem sentry {w:World} {p:Nat} {S:Nat->Prop} {f:Nat->Int} {m i:Nat} (hm:m<=140737488355000) (om:eOff f i<=m) (h:Rd w p S f m (eOff f i)) :
    Calls prog 39 #[.agg #[.pointer (some ⟨p,0,none⟩)]] w fun e w'=>POut (eOff f i+9<=m/\f (eOff f i+8)<=1/\eOff f (i+1)<=m) e (.agg #[.int .u64 (kF f i),.int .u64 (vF f i),.bool (gF f i)]) (RStep w w' p S f m (eOff f (i+1))) (Upd p w w'):=by
  have e9:eOff f (i+1)=eOff f i+(if f (eOff f i+8)=1 then 9 else 17):=rfl
  have kf:kF f i=numR f (eOff f i) 8:=rfl;have gf:gF f i=decide (f (eOff f i+8)=1):=rfl;have vf:vF f i=if f (eOff f i+8)=1 then 0 else numR f (eOff f i+9) 8:=rfl
  have BD:Hid (∀ j,j<m-eOff f i->0<=f (eOff f i+j)/\f (eOff f i+j)<256):=RRd.bd h;have VAL:Hid (kF f i=numR f (eOff f i) 8/\gF f i=decide (f (eOff f i+8)=1)/\(vF f i=if f (eOff f i+8)=1 then 0 else numR f (eOff f i+9) 8)/\eOff f (i+1)=eOff f i+(if f (eOff f i+8)=1 then 9 else 17)):=⟨kf,gf,vf,e9⟩
  clear e9 kf gf vf;generalize kF f i=kk at *;generalize vF f i=vv at *;generalize gF f i=gg at *;generalize eOff f (i+1)=o' at *;generalize eOff f i=o at *;have pl:=h.pl;obtain ⟨wa,hwa⟩:∃ wa,wa=(w.alloc (.cells #[.pointer (some ⟨p,0,none⟩)] 44)).alloc (.cells #[.int .u64 0,.int .u64 0,.bool false] 81):=⟨_,rfl⟩;have GA:Gw w wa:=by rw [hwa];exact ((Gw.refl w).alloc _ _).alloc _ _
  have UA:Hid (Upd p w wa):=.of_gw GA;have wz:wa.heap.size=w.heap.size+2:=by rw [hwa];simp
  have b0:wa.heap[w.heap.size]?=some (.cells #[.pointer (some ⟨p,0,none⟩)] 44 (0,0)):=by
    rw [hwa];exact (((Gw.refl _).alloc _ _).below.block _ (by simp)).trans (heap_alloc_new w _)
  have b1:wa.heap[w.heap.size+1]?=some (.cells #[.int .u64 0,.int .u64 0,.bool false] 81 (0,0)):=by
    rw [hwa];have:=heap_alloc_new (w.alloc (.cells #[.pointer (some ⟨p,0,none⟩)] 44)) (.cells #[.int .u64 0,.int .u64 0,.bool false] 81);rw [show (w.alloc (.cells #[.pointer (some ⟨p,0,none⟩)] 44)).heap.size=w.heap.size+1 by simp] at this
    exact this
  have FX:Hid (∀ w2,Upd p wa w2->w2.heap[w.heap.size]?=some (.cells #[.pointer (some ⟨p,0,none⟩)] 44 (0,0))/\w2.heap[w.heap.size+1]?=some (.cells #[.int .u64 0,.int .u64 0,.bool false] 81 (0,0))):=fun w2 u=>⟨(u.blk _ (by omega) (by omega)).trans b0,(u.blk _ (by omega) (by omega)).trans b1⟩
  have N1:Hid (Calls prog 68 #[.agg #[.pointer (some ⟨p,0,none⟩)]] wa fun e w'=>POut (o+8<=m) e (.int .u64 (numR f o 8)) (RStep wa w' p S f m (o+8)) (Upd p wa w')):=snumber hm om (h.gw GA)
  have FZz:Hid (∀ q,S q->q≠w.heap.size+1):=fun q hq=>by have:=RRd.lt h q hq;omega
  clear h b0 b1 GA wz;go_enter func39,ntmps39;go_wp2_with fail;rw [<-hwa];clear hwa;refine N1.out.mono ?_;rintro e w2 hh;clear N1;rcases hh with ⟨a,rfl,R⟩ | ⟨a,rfl,R⟩
  · obtain ⟨B0,B1⟩:=FX.out w2 R.1
    obtain ⟨u2,S2,r2,sub2⟩:=R;obtain ⟨x0,_⟩:=rd_cell B0;have xl:w.heap.size<w2.heap.size:=(Array.getElem?_eq_some_iff.1 B0).1;have U2:Hid (Upd p wa w2):=u2;have SB2:Hid (∀ q,S2 q->S q):=sub2;have AA:Hid (o+8<=m):=a;have BY:=soctet 1 (by decide) (by decide) hm a r2
    by_cases c:o+9<=m/\f (o+8)<=1
    · have C2:Hid (Calls prog 69 #[.agg #[.pointer (some ⟨p,0,none⟩)],.int .u8 1] w2 fun e w'=>e=.returned (.int .u8 (f (o+8)))/\RStep wa w' p S f m (o+9)):=BY.mono fun e w' hq=>by
        rcases hq with ⟨_,q2,q3⟩ | ⟨q1,_⟩
        · exact ⟨q2,RStep.after U2.out SB2.out q3⟩
        · exact absurd c q1
      have C9:Hid (o+9<=m/\f (o+8)<=1):=c;have by0:=(BD.out 8 (by omega)).1
      clear BY r2 u2 sub2 B0 B1 a;obtain ⟨y,hy⟩:∃ y,f (o+8)=y:=⟨_,rfl⟩;rw [hy] at C2 C9 VAL by0 c;obtain ⟨v1,v2,v3,v4⟩:=VAL.out;go_wp2_with fail;refine C2.out.mono ?_;rintro e w3 ⟨rfl,R3⟩;obtain ⟨B0,B1⟩:=FX.out w3 R3.1;obtain ⟨y0,_⟩:=rd_cell B0;have yl:w.heap.size<w3.heap.size:=(Array.getElem?_eq_some_iff.1 B0).1;have yl1:w.heap.size+1<w3.heap.size:=(Array.getElem?_eq_some_iff.1 B1).1;have R3':Hid (RStep wa w3 p S f m (o+9)):=R3;clear C2 x0 xl;by_cases y1:y=1
      · subst y1
        rw [if_pos rfl] at v3 v4;have g1:gg=true:=by rw [v2];rfl
        subst g1;subst v3;subst v4;obtain ⟨w0,hw0⟩:∃ w0,w0=w3:=⟨_,rfl⟩;subst hw0;have FIN:Hid (RStep w (put12 w0 (w.heap.size+1) kk 0 true) p S f m (o+9)):=put3_step (RStep.after UA.out (fun _ h=>h) R3'.out) (by omega) FZz.out _ _ _
        obtain ⟨p30,p31,p32⟩:=put3_cells B1 kk 0 true;obtain ⟨z0,z1,z2⟩:=ent_cells B1;obtain ⟨f0,f1,f2⟩:=ent_fz B1;rw [<-v1];unfold put12 at p30 p31 p32 FIN;have CO:Hid (o+9<=m/\f (o+8)<=1/\o+9<=m):=⟨c.1,by rw [hy];exact Int.le_refl _,c.1⟩
        clear B0 B1 R3 R3' v1 v2 UA VAL C9 c hy;go_wp2_with fail;exact bodyPost_ret (v:=.agg #[.int .u64 kk,.int .u64 0,.bool true]) (by simp [results,results39,go_sem,p30,p31,p32]) rfl (.inl ⟨CO.out,rfl,FIN.out⟩)
      · have y2:y=0:=by omega
        subst y2;rw [if_neg (by decide)] at v3 v4
        have g1:gg=false:=by rw [v2];rfl
        subst g1;subst v4;obtain ⟨w0,hw0⟩:∃ w0,w0=w3:=⟨_,rfl⟩;subst hw0;have CE:Hid (f (o+8)<=1):=by show _<=_;rw [hy];decide
        have R3c:=R3'.out;obtain ⟨u3,S3,r3,sub3⟩:=R3c;have N2:Hid (Calls prog 68 #[.agg #[.pointer (some ⟨p,0,none⟩)]] w0 fun e w'=>POut (o+9+8<=m) e (.int .u64 vv) (RStep wa w' p S f m (o+17)) (Upd p wa w')):=(snumber hm c.1 r3).mono fun e w' hq=>by
          rcases hq with ⟨q1,q2,q3⟩ | ⟨q1,q2,q3⟩
          · exact .inl ⟨q1,by rw [v3];exact q2,RStep.after u3 sub3 q3⟩
          · exact .inr ⟨q1,q2,u3.trans q3⟩
        have C9':Hid (o+9<=m):=c.1;have K1:Hid (kk=numR f o 8):=v1;rw [<-v1];clear B0 B1 R3 R3' v1 v2 v3 VAL C9 c hy u3 r3 sub3;go_wp2_with fail;refine N2.out.mono ?_;rintro e w5 hq;clear N2;rcases hq with ⟨q1,rfl,R5⟩ | ⟨q1,rfl,R5⟩
        · obtain ⟨B0,B1⟩:=FX.out w5 R5.1
          have FIN:Hid (RStep w (put12 w5 (w.heap.size+1) kk vv false) p S f m (o+17)):=put3_step (RStep.after UA.out (fun _ h=>h) R5) (by omega) FZz.out _ _ _
          obtain ⟨p30,p31,p32⟩:=put3_cells B1 kk vv false;obtain ⟨z0,z1,z2⟩:=ent_cells B1;obtain ⟨f0,f1,f2⟩:=ent_fz B1;have l5:w.heap.size+1<w5.heap.size:=(Array.getElem?_eq_some_iff.1 B1).1;unfold put12 at p30 p31 p32 FIN;have CO:Hid (o+9<=m/\f (o+8)<=1/\o+17<=m):=⟨C9'.out,CE.out,by omega⟩
          clear B0 B1 R5 UA;go_wp2_with fail;exact bodyPost_ret (v:=.agg #[.int .u64 kk,.int .u64 vv,.bool false]) (by simp [results,results39,go_sem,p30,p31,p32]) rfl (.inl ⟨CO.out,rfl,FIN.out⟩)
        · have FIN:Hid (Upd p w w5):=UA.out.trans R5
          clear R5 UA;go_wp2_with fail;exact ⟨rfl,.inr ⟨fun t=>by have:=t.2.2;omega,rfl,FIN.out⟩⟩
    · have C2:Hid (Calls prog 69 #[.agg #[.pointer (some ⟨p,0,none⟩)],.int .u8 1] w2 fun e w'=>e=.panicked (thrown 120)/\Upd p wa w'):=BY.mono fun e w' hq=>by
        rcases hq with ⟨q1,_⟩ | ⟨_,q2,q3⟩
        · exact absurd q1 c
        · exact ⟨q2,U2.out.trans q3⟩
      have CN:Hid (¬ (o+9<=m/\f (o+8)<=1)):=c;clear BY r2 u2 sub2 B0 B1 a c;go_wp2_with fail;refine C2.out.mono ?_;rintro e w3 ⟨rfl,R3⟩;have FIN:Hid (Upd p w w3):=UA.out.trans R3;clear C2 x0 xl R3 UA;go_wp2_with fail;exact ⟨rfl,.inr ⟨fun t=>CN.out ⟨t.1,t.2.1⟩,rfl,FIN.out⟩⟩
  · have FIN:Hid (Upd p w w2):=UA.out.trans R
    clear R UA;go_wp2_with fail;exact ⟨rfl,.inr ⟨fun t=>by have:=t.1;omega,rfl,FIN.out⟩⟩
theorem sentries {w:World} {p:Nat} {S:Nat->Prop} {f:Nat->Int} {m:Nat} (hm:m<=140737488355000) (md:Mod f m) (om:12<=m) (bd:∀ i,i<m->0<=f i/\f i<256) (h:Rd w p S f m 12) :
    Calls prog 16 #[.agg #[.pointer (some ⟨p,0,none⟩)]] w fun e w'=>(EntOK f m/\∃ b,e=.returned (.slice (some ⟨b,0,none⟩) (nF f) (nF f))/\w.heap.size<=b/\ES w' (some ⟨b,0,none⟩) (nF f) (kF f) (vF f) (gF f)/\RStep w w' p S f m (eOff f (nF f)))\/(¬ EntOK f m/\e=.panicked (thrown 120)/\Upd p w w'):=by
  have pl:=h.pl;have FZz:Hid (∀ q,S q->q<w.heap.size):=fun q hq=>RRd.lt h q hq
  have UA:Hid (Upd p w (w.alloc (.cells #[.pointer (some ⟨p,0,none⟩)] 44))):=.of_gw ((Gw.refl w).alloc _ _);have IT:=sitems 4294967296 (by decide) (by decide) 9 (by omega) (by omega) hm om (h.gw ((Gw.refl w).alloc #[.pointer (some ⟨p,0,none⟩)] 44))
  have b0:(w.alloc (.cells #[.pointer (some ⟨p,0,none⟩)] 44)).heap[w.heap.size]?=some (.cells #[.pointer (some ⟨p,0,none⟩)] 44 (0,0)):=heap_alloc_new w _;have C1:Hid (Calls prog 38 #[.agg #[.pointer (some ⟨p,0,none⟩)],.int .i64 4294967296,.int .i64 9] (w.alloc (.cells #[.pointer (some ⟨p,0,none⟩)] 44)) fun e w'=>(((20<=m/\numR f 12 8<=4294967296)/\nF f<=(m-20)/9)/\e=.returned (.int .i64 (nF f:Int))/\RStep w w' p S f m 20/\w'.heap[w.heap.size]?=some (.cells #[.pointer (some ⟨p,0,none⟩)] 44 (0,0)))\/(¬ EntOK f m/\e=.panicked (thrown 120)/\Upd p w w')):=IT.mono fun e w' hh=>by
    rcases hh with ⟨a,b,c⟩ | ⟨a,b,c⟩
    · exact .inl ⟨a,b,RStep.after UA.out (fun _ h=>h) c,(c.1.blk _ (by omega) (by simp)).trans b0⟩
    · exact .inr ⟨fun t=>a ⟨t.1,t.room⟩,b,UA.out.trans c⟩
  have MD:Hid (Mod f m):=md;have BDH:Hid (∀ i,i<m->0<=f i/\f i<256):=bd;clear h IT b0 UA md bd;go_enter func16,ntmps16;go_wp2_with fail;refine C1.out.mono ?_;rintro e w2 hh;clear C1;rcases hh with ⟨⟨a1,a2⟩,rfl,R,B2⟩ | ⟨a,rfl,R⟩
  · have A1:Hid (20<=m/\numR f 12 8<=4294967296):=a1
    have n1:=MD.out.n1 a2;obtain ⟨n,hn⟩:∃ n,nF f=n:=⟨_,rfl⟩;have HN:Hid (nF f=n):=hn;rw [hn] at n1 ⊢;have hmk:=made_em n (by omega) w2
    have sz2:w.heap.size<w2.heap.size:=(Array.getElem?_eq_some_iff.1 B2).1;have RR0:Hid ((w2.alloc (.cells (madeCells #[.int .u64 0,.int .u64 0,.bool false] (n*3)) 81)).rowIs w2.heap.size 81 (n*3) (ecell (eT 0 0 (kF f)) (eT 0 0 (vF f)) (eT false 0 (gF f)))):=made_erow w2 n;have ST0:Hid (RStep w (w2.alloc (.cells (madeCells #[.int .u64 0,.int .u64 0,.bool false] (n*3)) 81)) p S f m (eOff f 0)):=R.gw ((Gw.refl w2).alloc _ _);have BX0:Hid ((w2.alloc (.cells (madeCells #[.int .u64 0,.int .u64 0,.bool false] (n*3)) 81)).heap[w.heap.size]?=some (.cells #[.pointer (some ⟨p,0,none⟩)] 44 (0,0))):=(((Gw.refl w2).alloc _ _).below.block _ sz2).trans B2;obtain ⟨b,hb⟩:∃ b,b=w2.heap.size:=⟨_,rfl⟩;have bw:w.heap.size<b:=by omega
    clear R B2 hn a1 a2;go_wp2_with fail;rw [<-hb] at RR0 ⊢;generalize w2.alloc (.cells (madeCells #[.int .u64 0,.int .u64 0,.bool false] (n*3)) 81)=w3 at RR0 ST0 BX0 ⊢;clear hb hmk sz2;go_loopg [10] n (fun gg s10 wr=>∃ i:Nat,s10=.int .i64 i/\i<=n/\n-i<=gg/\Hid (wr.rowIs b 81 (n*3) (ecell (eT 0 i (kF f)) (eT 0 i (vF f)) (eT false i (gF f))))/\Hid (RStep w wr p S f m (eOff f i))/\Hid (wr.heap[w.heap.size]?=some (.cells #[.pointer (some ⟨p,0,none⟩)] 44 (0,0)))/\Hid (eOff f i<=m)/\Hid (∀ t,t<i->eOff f t+9<=m/\f (eOff f t+8)<=1/\eOff f (t+1)<=m))
    case atStart=>exact ⟨0,rfl,Nat.zero_le _,by omega,RR0,ST0,BX0,(show Hid _ from A1.out.1),(show Hid _ from fun t ht=>by omega)⟩
    case round =>
      clear RR0 ST0 BX0;obtain ⟨i,rfl,h1,h2,RI,SI,BI,OI,EI⟩:=hrel;by_cases hlt:i<n
      · obtain ⟨u,Si,ri,subi⟩:=SI.out
        obtain ⟨x0,_⟩:=rd_cell BI.out;have xl:w.heap.size<wr.heap.size:=(Array.getElem?_eq_some_iff.1 BI.out).1;have bl:=RI.out.lt;have KE:Hid (∀ w5,Upd p wr w5->w5.heap[w.heap.size]?=some (.cells #[.pointer (some ⟨p,0,none⟩)] 44 (0,0))/\w5.rowIs b 81 (n*3) (ecell (eT 0 i (kF f)) (eT 0 i (vF f)) (eT false i (gF f)))):=fun w5 u5=>⟨(u5.blk _ (by omega) xl).trans BI.out,rows_kept RI.out (u5.blk _ (by omega) bl)⟩
        have CE:Hid (Calls prog 39 #[.agg #[.pointer (some ⟨p,0,none⟩)]] wr fun e w'=>((eOff f i+9<=m/\f (eOff f i+8)<=1/\eOff f (i+1)<=m)/\e=.returned (.agg #[.int .u64 (kF f i),.int .u64 (vF f i),.bool (gF f i)])/\RStep w w' p S f m (eOff f (i+1))/\Upd p wr w')\/(¬ (eOff f i+9<=m/\f (eOff f i+8)<=1/\eOff f (i+1)<=m)/\e=.panicked (thrown 120)/\Upd p w w')):=(sentry hm OI.out ri).mono fun e w' hq=>by
          rcases hq with ⟨q1,q2,q3⟩ | ⟨q1,q2,q3⟩
          · exact .inl ⟨q1,q2,RStep.after u subi q3,q3.1⟩
          · exact .inr ⟨q1,q2,u.trans q3⟩
        clear u ri subi SI bl;go_wp2_with fail;refine CE.out.mono ?_;rintro e w5 hq;clear CE;rcases hq with ⟨q1,rfl,q3,q4⟩ | ⟨q1,rfl,q3⟩
        · obtain ⟨BX,RW⟩:=KE.out w5 q4
          have RN:Hid ((put3o w5 b (i*3) (kF f i) (vF f i) (gF f i)).rowIs b 81 (n*3) (ecell (eT 0 (i+1) (kF f)) (eT 0 (i+1) (vF f)) (eT false (i+1) (gF f)))):=erow_put RW hlt;have SN:Hid (RStep w (put3o w5 b (i*3) (kF f i) (vF f i) (gF f i)) p S f m (eOff f (i+1))):=q3.put3o (by omega) FZz.out _ _ _ _
          have BN:Hid ((put3o w5 b (i*3) (kF f i) (vF f i) (gF f i)).heap[w.heap.size]?=some (.cells #[.pointer (some ⟨p,0,none⟩)] 44 (0,0))):=by
            show _=_;unfold put3o;rw [Go.Deep.blk_setCell_other _ _ _ _ (show w.heap.size≠b by omega),Go.Deep.blk_setCell_other _ _ _ _ (show w.heap.size≠b by omega),Go.Deep.blk_setCell_other _ _ _ _ (show w.heap.size≠b by omega)]
            exact BX
          have z0:=RW.cell (i:=i*3) (by omega)
          have z1:=RW.cell (i:=i*3+1) (by omega)
          have z2:=RW.cell (i:=i*3+2) (by omega)
          have f0:=RW.frozen (i*3);have f1:=RW.frozen (i*3+1);have f2:=RW.frozen (i*3+2);have bl:=RW.lt;have EN:Hid (∀ t,t<i+1->eOff f t+9<=m/\f (eOff f t+8)<=1/\eOff f (t+1)<=m):=fun t ht=>by
            by_cases c:t=i
            · subst c;exact q1
            · exact EI.out t (by omega)
          have ON:Hid (eOff f (i+1)<=m):=q1.2.2;generalize kF f i=ki at *;generalize vF f i=vi at *;generalize gF f i=gi at *;unfold put3o at RN SN BN;clear RW q1 q3 q4 BX x0 xl RI KE EI;go_wp2_with fail;go_roundg (n-(i+1))
          case measure=>omega
          case rel=>exact ⟨i+1,by go_num,by omega,Nat.le_refl _,RN,SN,BN,ON,EN⟩
        · have FIN:Hid (Upd p w w5):=q3
          have NO:Hid (¬ EntOK f m):=fun t=>q1 (t.2 i (by rw [HN.out];exact hlt))
          clear q1 q3 KE;go_wp2_with fail;exact ⟨rfl,.inr ⟨NO.out,rfl,FIN.out⟩⟩
      · have ei:i=n:=by omega
        subst ei;have EO:EntOK f m:=⟨A1.out,fun t ht=>EI.out t (by rw [HN.out] at ht;exact ht)⟩
        have FIN:Hid (EntOK f m/\ES wr (some ⟨b,0,none⟩) i (kF f) (vF f) (gF f)):=⟨EO,es_of_row (RI.out.congr fun j hj=>ecell_congr (fun t ht=>by unfold eT;rw [if_pos ht,if_pos ht,if_pos ht];exact ⟨rfl,rfl,rfl⟩) j hj) (Nat.le_refl _) (fun t ht=>kF_bd BDH.out EO t (by rw [HN.out];exact ht))⟩
        clear RI EI EO;go_wp2_with fail;go_ret;exact .inl ⟨FIN.out.1,b,by rw [HN.out];rfl,by omega,by rw [HN.out];exact FIN.out.2,by rw [HN.out];exact SI.out⟩
  · have FIN:Hid (Upd p w w2):=R
    have NO:Hid (¬ EntOK f m):=a;clear R a;go_wp2_with fail;exact ⟨rfl,.inr ⟨NO.out,rfl,FIN.out⟩⟩
end Go.Proofs.YtpoohadckhphpaaGreat
namespace Go.Proofs.YtpoohadckhphpaaGreat
open Go.RowKit
attribute [local go_sem] run_store_float
theorem OwnV.putU {w w1:World} {B g cap i:Nat} {L:List (List Sg)} {vals:List Value} {vl:Value} {lv:List Sg} (h0:OwnV w B (.slice (some ⟨g,0,none⟩) L.length cap) L vals) (h:OwnV w1 B (.slice (some ⟨g,0,none⟩) L.length cap) L vals) (hs:SR w1 w.heap.size vl lv) (hB:B<=w.heap.size) (hi:i<L.length):OwnV (w1.setCell ⟨g,i,none⟩ vl) B (.slice (some ⟨g,0,none⟩) (L.set i lv).length cap) (L.set i lv) (vals.set i vl):=by
  have vn:=h0.len;have gl:g<w.heap.size:=(h0.outer.lt g rfl).2;have lq:∀ q,vl.ownBlock=some q->w.heap.size<=q:=fun q hq=>(sr_lt hs q hq).1
  have oq:∀ j,j<L.length->∀ q,(vals.getD j nilS).ownBlock=some q->q<w.heap.size:=fun j hj q hq=>(sr_lt (h0.rows j hj) q hq).2
  have oth:∀ q,q≠g->(w1.setCell ⟨g,i,none⟩ vl).heap[q]?=w1.heap[q]?:=fun q hq=>Go.Deep.blk_setCell_other _ _ _ _ hq
  have gs:∀ j,j≠i->(vals.set i vl).getD j nilS=vals.getD j nilS/\(L.set i lv).getD j []=L.getD j []:=fun j hj=>by
    constructor
    · simp [List.getD,List.getElem?_set_ne (Ne.symm hj)]
    · simp [List.getD,List.getElem?_set_ne (Ne.symm hj)]
  have ge:(vals.set i vl).getD i nilS=vl/\(L.set i lv).getD i []=lv:=by
    constructor
    · simp [List.getD,List.getElem?_set_self (show i<vals.length by omega)]
    · simp [List.getD,List.getElem?_set_self hi]
  refine ⟨?_,fun j hj=>?_,fun j hj q hq=>?_⟩
  · rw [List.length_set]
    exact (h.outer.stored i vl).1
  · rw [List.length_set] at hj
    by_cases e:j=i
    · subst e
      rw [ge.1,ge.2];exact sr_low (sr_keep hs fun q hq=>oth q (by have:=lq q hq;omega)) hB
    · rw [(gs j e).1,(gs j e).2]
      exact sr_keep (h.rows j hj) fun q hq=>oth q (fun x=>(h0.apart j hj q hq).1 (by rw [x];rfl))
  · rw [List.length_set] at hj ⊢
    by_cases e:j=i
    · subst e
      rw [ge.1] at hq;have q1:=lq q hq;refine ⟨fun x=>?_,fun m hm hmq=>?_⟩
      · have:g=q:=by simpa [Value.ownBlock] using x
        omega
      · by_cases e2:m=j
        · exact e2
        · rw [(gs m e2).1] at hmq
          have:=oq m hm q hmq
          omega
    · rw [(gs j e).1] at hq
      have q1:=oq j hj q hq;have ap:=h0.apart j hj q hq;refine ⟨fun x=>ap.1 (by
                                have:g=q:=by simpa [Value.ownBlock] using x
                                rw [this];rfl),fun m hm hmq=>?_⟩
      by_cases e2:m=i
      · subst e2
        rw [ge.1] at hmq;have:=lq q hmq;omega
      · rw [(gs m e2).1] at hmq
        exact ap.2 m hm hmq
theorem sr_facts {w:World} {base g n c:Nat} {l:List Sg} (h:SR w base (.slice (some ⟨g,0,none⟩) n c) l):g<w.heap.size/\(∀ j,j<l.length*5->∃ y,w.cell? ⟨g,j,none⟩=some y)/\∀ j,w.frozen? ⟨g,j,none⟩=false:=by
  rcases h.2 with ⟨e,_⟩ | ⟨g',cap,cur,e,hb,hh,hc,hm,hs,ht⟩
  · cases e
  · cases e
    refine ⟨(Array.getElem?_eq_some_iff.1 hh).1,fun j hj=>?_,fun j=>by simp [World.frozen?,hh]⟩
    have:j<cur.size:=by
      have:=Nat.mul_le_mul_right 5 hc
      omega
    exact ⟨cur[j],by simp [World.cell?,hh,this]⟩
theorem ov_facts {w:World} {base g n c:Nat} {L:List (List Sg)} {vals:List Value} (h:OwnV w base (.slice (some ⟨g,0,none⟩) n c) L vals):g<w.heap.size/\base<=g/\(∀ j,j<L.length->∃ y,w.cell? ⟨g,j,none⟩=some y)/\∀ j,w.frozen? ⟨g,j,none⟩=false:=by
  rcases h.outer.2 with ⟨e,_⟩ | ⟨g',cap,cur,e,hb,hh,hc,hm,hs,ht⟩
  · cases e
  · cases e
    refine ⟨(Array.getElem?_eq_some_iff.1 hh).1,hb,fun j hj=>?_,fun j=>by simp [World.frozen?,hh]⟩
    have:j<cur.size:=by omega
    exact ⟨cur[j],by simp [World.cell?,hh,this]⟩
theorem ks_row12 {w:World} {b n:Nat} {f:Nat->Int} (h:w.rowIs b 37 n (fun i=>.int .u64 (f i))) (bd:∀ i,i<n->0<=f i/\f i<18446744073709551616):KS w (some ⟨b,0,none⟩) n f :=
  ⟨fun h0=>⟨b,0,rfl,h.lt,fun i hi=>by rw [Nat.zero_add,h.cell (by omega)]⟩,bd⟩
theorem KS.upd {w w':World} {bo:Option Addr} {n p:Nat} {f:Nat->Int} (h:KS w bo n f) (u:Upd p w w') (hb:∀ a,bo=some a->a.block≠p):KS w' bo n f :=
  ⟨fun h0=>by
    obtain ⟨b,off,e,hl,hc⟩:=h.cells h0;exact ⟨b,off,e,Nat.lt_of_lt_of_le hl u.size,fun i hi=>(u.cell (hb _ e) hl _).trans (hc i hi)⟩,h.bd⟩
theorem num_bd8 {f:Nat->Int} {m o:Nat} (bd:∀ i,i<m->0<=f i/\f i<256) (ho:o+8<=m):0<=numR f o 8/\numR f o 8<18446744073709551616:=by
  have:=numR_bd (f:=f) (o:=o) (k:=8) (fun j hj=>bd _ (by omega))
  exact this
theorem LvFit.few {f:Nat->Int} {m o N:Nat} (h:LvFit f m o N):cF f o<=(m-(o+8))/24:=by
  cases hn:cF f o with
  | zero=>exact Nat.zero_le _
  | succ c =>
    have:=(h.seg c (by omega)).room
    omega
theorem frF_nn {f:Nat->Int} {m o N j:Nat} (bd:∀ i,i<m->0<=f i/\f i<256) (h:∀ t,t<j->SegFit f m o N t):0<=frF f o j:=by
  cases j with
  | zero=>exact Int.le_refl _
  | succ j =>
    have:=(h j (by omega)).room
    exact (num_bd8 bd (show o+8+24*j+8<=m by omega)).1
theorem lvF_ok {f:Nat->Int} {m o N:Nat} {key:Nat->Int} (bd:∀ i,i<m->0<=f i/\f i<256) (kb:∀ i,i<N->0<=key i/\key i<18446744073709551616) {c:Nat} (h:∀ t,t<c->SegFit f m o N t):∀ j,j<c->(sgF f o key j).ok:=by
  intro j hj;have S:=h j hj;have fr0:=frF_nn (j:=j) bd (fun t ht=>h t (by omega))
  have r:=S.room;have a:=num_bd8 bd (show o+8+24*j+8<=m by omega)
  have b:=num_bd8 bd (show o+8+24*j+8+8<=m by omega)
  have d:=num_bd8 bd (show o+8+24*j+16+8<=m by omega)
  have t:=S.te;have k:=kb _ S.fr;have f1:frF f o j<9223372036854775808:=by
    cases j with
    | zero=>show (0:Int)<_;decide
    | succ i =>
      have:=(h i (by omega)).te
      show numR f (o+8+24*i) 8<_;omega
  exact ⟨k.1,k.2,by show (numR f (o+8+24*j+8) 8).toNat<_;omega,by show (numR f (o+8+24*j+16) 8).toNat<_;omega,by show _<=frF f o j;omega,f1,by show _<=numR f (o+8+24*j) 8;omega,by show numR f (o+8+24*j) 8<_;omega⟩
theorem jlevel {w:World} {p:Nat} {S:Nat->Prop} {f:Nat->Int} {m o:Nat} (hm:m<=140737488355000) (cm:cF f o<=(m-(o+8))/24->cF f o<=2000000) (om:o<=m) (bd:∀ i,i<m->0<=f i/\f i<256) (bo:Option Addr) (N bc:Nat) (key:Nat->Int) (n1:N<=4000000) (kb:∀ a,bo=some a->a.block≠p) (hk:KS w bo N key) (h:Rd w p S f m o) :
    Calls prog 153 #[.agg #[.pointer (some ⟨p,0,none⟩)],.slice bo N bc] w fun e w'=>(LvFit f m o N/\∃ b,e=.returned (.slice (some ⟨b,0,none⟩) (cF f o) (cF f o))/\SR w' w.heap.size (.slice (some ⟨b,0,none⟩) (cF f o) (cF f o)) (lvF f o key)/\RStep w w' p S f m (o+8+24*cF f o))\/(¬ LvFit f m o N/\e=.panicked (thrown 120)/\Upd p w w'):=by
  have pl:=h.pl;have FZz:Hid (∀ q,S q->q<w.heap.size):=fun q hq=>RRd.lt h q hq
  have UA:Hid (Upd p w (w.alloc (.cells #[.pointer (some ⟨p,0,none⟩)] 186))):=.of_gw ((Gw.refl w).alloc _ _);have IT:=jitems 24 (by omega) (by omega) hm om (h.gw ((Gw.refl w).alloc #[.pointer (some ⟨p,0,none⟩)] 186))
  have b0:(w.alloc (.cells #[.pointer (some ⟨p,0,none⟩)] 186)).heap[w.heap.size]?=some (.cells #[.pointer (some ⟨p,0,none⟩)] 186 (0,0)):=heap_alloc_new w _;have C1:Hid (Calls prog 151 #[.agg #[.pointer (some ⟨p,0,none⟩)],.int .i64 24] (w.alloc (.cells #[.pointer (some ⟨p,0,none⟩)] 186)) fun e w'=>(((o+8<=m/\numR f o 8<=4294967296)/\cF f o<=(m-(o+8))/24)/\e=.returned (.int .i64 (cF f o:Int))/\RStep w w' p S f m (o+8)/\w'.heap[w.heap.size]?=some (.cells #[.pointer (some ⟨p,0,none⟩)] 186 (0,0)))\/(¬ LvFit f m o N/\e=.panicked (thrown 120)/\Upd p w w')):=IT.mono fun e w' hh=>by
    rcases hh with ⟨a,b,c⟩ | ⟨a,b,c⟩
    · exact .inl ⟨a,b,RStep.after UA.out (fun _ h=>h) c,(c.1.blk _ (by omega) (by simp)).trans b0⟩
    · exact .inr ⟨fun t=>a ⟨⟨t.room,t.cnt⟩,t.few⟩,b,UA.out.trans c⟩
  have BDH:Hid (∀ i,i<m->0<=f i/\f i<256):=bd;have HK:Hid (KS w bo N key):=hk;have KB:Hid (∀ a,bo=some a->a.block≠p):=kb;clear h IT b0 UA bd hk kb;go_enter func153,ntmps153;go_wp2_with fail;refine C1.out.mono ?_;rintro e w2 hh;clear C1;rcases hh with ⟨⟨a1,a2⟩,rfl,R,B2⟩ | ⟨a,rfl,R⟩
  · have A1:Hid (o+8<=m/\numR f o 8<=4294967296):=a1
    have c1:=cm a2;have LL:=lvF_len f o key;obtain ⟨n,hn⟩:∃ n,cF f o=n:=⟨_,rfl⟩;have HN:Hid (cF f o=n):=hn;have LV:Hid ((lvF f o key).length=n/\∀ j,j<n->(lvF f o key).getD j sg0=sgF f o key j):=⟨by rw [LL,hn],fun j hj=>lvF_at f o key (by omega)⟩
    rw [hn] at c1 ⊢;have hmk:=made_sgm n (by omega) w2
    have sz2:w.heap.size<w2.heap.size:=(Array.getElem?_eq_some_iff.1 B2).1;have SR0:Hid (SR (w2.alloc (.cells (madeCells #[.int .u64 0,.float .f64 0,.float .f64 0,.int .i64 0,.int .i64 0] (n*5)) 110)) w.heap.size (.slice (some ⟨w2.heap.size,0,none⟩) n n) (fillT (lvF f o key) sg0 0)):=by
      show SR _ _ _ _;rw [fillT_zero,LV.out.1];exact sr_low (sr_made w2 n (by omega)) (by omega)
    have ST0:Hid (RStep w (w2.alloc (.cells (madeCells #[.int .u64 0,.float .f64 0,.float .f64 0,.int .i64 0,.int .i64 0] (n*5)) 110)) p S f m (o+8+24*0)):=R.gw ((Gw.refl w2).alloc _ _);have BX0:Hid ((w2.alloc (.cells (madeCells #[.int .u64 0,.float .f64 0,.float .f64 0,.int .i64 0,.int .i64 0] (n*5)) 110)).heap[w.heap.size]?=some (.cells #[.pointer (some ⟨p,0,none⟩)] 186 (0,0))):=(((Gw.refl w2).alloc _ _).below.block _ sz2).trans B2;obtain ⟨b,hb⟩:∃ b,b=w2.heap.size:=⟨_,rfl⟩;have bw:w.heap.size<b:=by omega
    clear R B2 hn a1 a2 LL cm;go_wp2_with fail;rw [<-hb] at SR0 ⊢;generalize w2.alloc (.cells (madeCells #[.int .u64 0,.float .f64 0,.float .f64 0,.int .i64 0,.int .i64 0] (n*5)) 110)=w3 at SR0 ST0 BX0 ⊢;clear hb hmk sz2;go_loopg [6,16] n (fun gg s6 s16 wr=>∃ i:Nat,s6=.int .i64 (frF f o i)/\s16=.int .i64 i/\i<=n/\n-i<=gg/\Hid (SR wr w.heap.size (.slice (some ⟨b,0,none⟩) n n) (fillT (lvF f o key) sg0 i))/\Hid (RStep w wr p S f m (o+8+24*i))/\Hid (wr.heap[w.heap.size]?=some (.cells #[.pointer (some ⟨p,0,none⟩)] 186 (0,0)))/\Hid (o+8+24*i<=m)/\Hid (∀ t,t<i->SegFit f m o N t))
    case atStart=>exact ⟨0,rfl,rfl,Nat.zero_le _,by omega,SR0,ST0,BX0,(show Hid _ from A1.out.1),(show Hid _ from fun t ht=>by omega)⟩
    case round =>
      clear SR0 ST0 BX0;obtain ⟨i,rfl,rfl,h1,h2,RI,SI,BI,OI,EI⟩:=hrel;by_cases hlt:i<n
      · have f0:=frF_nn (j:=i) BDH.out EI.out
        obtain ⟨fr,hfr⟩:∃ fr:Nat,frF f o i=(fr:Int):=⟨(frF f o i).toNat,by omega⟩
        have HF:Hid (frF f o i=(fr:Int)):=hfr;rw [hfr];obtain ⟨u,Si,ri,subi⟩:=SI.out;have UI:Hid (Upd p w wr):=u;have bl:=(sr_facts RI.out).1;have xl:w.heap.size<wr.heap.size:=(Array.getElem?_eq_some_iff.1 BI.out).1;obtain ⟨x0,_⟩:=rd_cell BI.out;have KE:Hid (∀ w5,Upd p wr w5->(w5.cell? ⟨w.heap.size,0,none⟩=some (.pointer (some ⟨p,0,none⟩))/\w.heap.size<w5.heap.size)/\w5.heap[w.heap.size]?=some (.cells #[.pointer (some ⟨p,0,none⟩)] 186 (0,0))/\SR w5 w.heap.size (.slice (some ⟨b,0,none⟩) n n) (fillT (lvF f o key) sg0 i)/\KS w5 bo N key):=fun w5 u5=>by
          have e:=(u5.blk _ (by omega) xl).trans BI.out
          exact ⟨⟨(rd_cell e).1,(Array.getElem?_eq_some_iff.1 e).1⟩,e,sr_keep RI.out (fun q hq=>u5.blk q (by
                                                                                                                  have:b=q:=by simpa [Value.ownBlock] using hq
                                                                                                                  omega) (by
                                                                                                                             have:b=q:=by simpa [Value.ownBlock] using hq
                                                                                                                             omega)),HK.out.upd (UI.out.trans u5) KB.out⟩
        by_cases q:fr<N
        · have tq:decide ((fr:Int)<(N:Int))=true:=by simpa using q
          have tq2:decide (fr<N)=true:=by simpa using q
          have CC:Hid (Calls prog 121 #[.agg #[.pointer (some ⟨p,0,none⟩)],.int .i64 4294967296] wr fun e w'=>((o+8+24*i+8<=m/\numR f (o+8+24*i) 8<=4294967296)/\e=.returned (.int .i64 (numR f (o+8+24*i) 8))/\RStep wr w' p Si f m (o+8+24*i+8))\/(¬ LvFit f m o N/\e=.panicked (thrown 120)/\Upd p w w')):=(jcount 4294967296 (by decide) (by decide) hm OI.out ri).mono fun e w' hq=>by
            rcases hq with ⟨q1,q2,q3⟩ | ⟨q1,q2,q3⟩
            · exact .inl ⟨q1,q2,q3⟩
            · exact .inr ⟨fun t=>q1 (by have:=t.seg i (by rw [HN.out];exact hlt);have r:=this.room;exact ⟨by omega,this.te⟩),q2,UI.out.trans q3⟩
          have SB:Hid (∀ q,Si q->S q):=subi;have QF:Hid (fr<N):=q;clear u ri subi SI bl q;go_wp2_with fail;refine (jneed_ok _).mono ?_;rintro e w4 ⟨rfl,hw⟩;subst hw;go_wp2_with fail;refine CC.out.mono ?_;rintro e w5 hq;clear CC;rcases hq with ⟨⟨q1,q1'⟩,rfl,q3⟩ | ⟨q1,rfl,q3⟩
          · obtain ⟨u5,S5,r5,sub5⟩:=q3
            have U5:Hid (Upd p w4 w5):=u5;have T5:Hid (o+8+24*i+8<=m/\numR f (o+8+24*i) 8<=4294967296):=⟨q1,q1'⟩;obtain ⟨⟨x5,l5⟩,_⟩:=KE.out w5 u5;have F1:Hid (Calls prog 171 #[.agg #[.pointer (some ⟨p,0,none⟩)]] w5 fun e w'=>((o+8+24*i+8+8<=m/\numR f (o+8+24*i+8) 8/4503599627370496%2048≠2047)/\e=.returned (.float .f64 (numR f (o+8+24*i+8) 8).toNat)/\RStep w5 w' p S5 f m (o+8+24*i+8+8))\/(¬ LvFit f m o N/\e=.panicked (thrown 120)/\Upd p w w')):=(jfloat hm q1 r5).mono fun e w' hq=>by
              rcases hq with ⟨q1,q2,q3⟩ | ⟨q1,q2,q3⟩
              · exact .inl ⟨q1,q2,q3⟩
              · exact .inr ⟨fun t=>q1 (by have:=t.seg i (by rw [HN.out];exact hlt);have r:=this.room;exact ⟨by omega,this.sl⟩),q2,(UI.out.trans U5.out).trans q3⟩
            have SB5:Hid (∀ q,S5 q->Si q):=sub5;clear u5 r5 sub5 q1 q1' x0 xl;go_wp2_with fail;refine F1.out.mono ?_;rintro e w6 hq;clear F1;rcases hq with ⟨⟨q1,q1'⟩,rfl,q3⟩ | ⟨q1,rfl,q3⟩
            · obtain ⟨u6,S6,r6,sub6⟩:=q3
              have U6:Hid (Upd p w4 w6):=U5.out.trans u6;have T6:Hid (o+8+24*i+8+8<=m/\numR f (o+8+24*i+8) 8/4503599627370496%2048≠2047):=⟨q1,q1'⟩;obtain ⟨⟨x6,l6⟩,_⟩:=KE.out w6 U6.out;have F2:Hid (Calls prog 171 #[.agg #[.pointer (some ⟨p,0,none⟩)]] w6 fun e w'=>((o+8+24*i+8+8+8<=m/\numR f (o+8+24*i+16) 8/4503599627370496%2048≠2047)/\e=.returned (.float .f64 (numR f (o+8+24*i+16) 8).toNat)/\RStep w6 w' p S6 f m (o+8+24*(i+1)))\/(¬ LvFit f m o N/\e=.panicked (thrown 120)/\Upd p w w')):=(jfloat hm q1 r6).mono fun e w' hq=>by
                rw [show o+8+24*(i+1)=o+8+24*i+8+8+8 by omega,show o+8+24*i+16=o+8+24*i+8+8 by omega]
                rcases hq with ⟨q1,q2,q3⟩ | ⟨q1,q2,q3⟩
                · exact .inl ⟨q1,q2,q3⟩
                · exact .inr ⟨fun t=>q1 (by have:=t.seg i (by rw [HN.out];exact hlt);have r:=this.room;have s:=this.ic;rw [show o+8+24*i+16=o+8+24*i+8+8 by omega] at s;exact ⟨by omega,s⟩),q2,(UI.out.trans U6.out).trans q3⟩
              have SB6:Hid (∀ q,S6 q->S q):=fun q hq=>SB.out q (SB5.out q (sub6 q hq))
              clear u6 r6 sub6 q1 q1' x5 l5 U5 SB SB5;go_wp2_with fail;refine F2.out.mono ?_;rintro e w7 hq;clear F2;rcases hq with ⟨⟨q1,q1'⟩,rfl,q3⟩ | ⟨q1,rfl,q3⟩
              · obtain ⟨_,BX7,SR7,KS7⟩:=KE.out w7 (U6.out.trans q3.1)
                obtain ⟨bk,off,rfl,hbk,hkc⟩:=KS7.cells (Nat.lt_of_le_of_lt (Nat.zero_le _) QF.out);have kc:=hkc fr QF.out;obtain ⟨bl7,cell7,fz7⟩:=sr_facts SR7;have fl:=fillT_len (lvF f o key) sg0 i (by rw [LV.out.1];exact h1)
                rw [LV.out.1] at fl;obtain ⟨y0,z0⟩:=cell7 (i*5) (by rw [fl];omega)
                obtain ⟨y1,z1⟩:=cell7 (i*5+1) (by rw [fl];omega)
                obtain ⟨y2,z2⟩:=cell7 (i*5+2) (by rw [fl];omega)
                obtain ⟨y3,z3⟩:=cell7 (i*5+3) (by rw [fl];omega)
                obtain ⟨y4,z4⟩:=cell7 (i*5+4) (by rw [fl];omega)
                have g0:=fz7 (i*5);have g1:=fz7 (i*5+1);have g2:=fz7 (i*5+2);have g3:=fz7 (i*5+3);have g4:=fz7 (i*5+4);have SG:sgF f o key i=⟨key fr,(numR f (o+8+24*i+8) 8).toNat,(numR f (o+8+24*i+16) 8).toNat,(fr:Int),numR f (o+8+24*i) 8⟩:=by
                  unfold sgF teF;rw [HF.out,Int.toNat_natCast]
                have RN:Hid (SR (put5 w7 b (i*5) (sgF f o key i)) w.heap.size (.slice (some ⟨b,0,none⟩) n n) (fillT (lvF f o key) sg0 (i+1))):=by
                  show SR _ _ _ _;have s7:SR w7 w.heap.size (.slice (some ⟨b,0,none⟩) (fillT (lvF f o key) sg0 i).length n) (fillT (lvF f o key) sg0 i):=by rw [fl];exact SR7
                  have:=sr_put s7 (k:=i) (by rw [fl];exact hlt) (sgF f o key i)
                  rw [<-LV.out.2 i hlt,fillT_set _ _ _ (by rw [LV.out.1];exact hlt),fillT_len _ _ _ (by rw [LV.out.1];omega),LV.out.1] at this
                  rw [<-LV.out.2 i hlt];exact this
                have SN:Hid (RStep w (put5 w7 b (i*5) (sgF f o key i)) p S f m (o+8+24*(i+1))):=by
                  have r:=RStep.after (UI.out.trans U6.out) SB6.out q3;exact ((((r.setN (by omega) FZz.out _ _).setN (by omega) FZz.out _ _).setN (by omega) FZz.out _ _).setN (by omega) FZz.out _ _).setN (by omega) FZz.out _ _
                have BN:Hid ((put5 w7 b (i*5) (sgF f o key i)).heap[w.heap.size]?=some (.cells #[.pointer (some ⟨p,0,none⟩)] 186 (0,0))):=(put5_other w7 b _ _ (by omega)).trans BX7
                rw [SG] at RN SN BN;have EN:Hid (∀ t,t<i+1->SegFit f m o N t):=fun t ht=>by
                  by_cases c:t=i
                  · subst c
                    exact ⟨by omega,T5.out.2,T6.out.2,q1',by rw [HF.out,Int.toNat_natCast];exact QF.out⟩
                  · exact EI.out t (by omega)
                have ON:Hid (o+8+24*(i+1)<=m):=by show _<=_;omega
                have NX:Hid (frF f o (i+1)=numR f (o+8+24*i) 8):=rfl;unfold put5 at RN SN BN;simp only [] at RN SN BN;generalize numR f (o+8+24*i) 8=te at *;generalize (numR f (o+8+24*i+8) 8).toNat=sl at *;generalize (numR f (o+8+24*i+16) 8).toNat=ic at *;generalize key fr=kx at *;have frN:(fr:Int)<(N:Int):=by have:=QF.out;omega
                clear SR7 KS7 BX7 q1 q1' q3 hkc cell7 fz7 fl SG x6 l6 RI KE EI T5 T6 U6 UI SB6;go_wp2_with fail;go_roundg (n-(i+1))
                case measure=>omega
                case rel=>exact ⟨i+1,by rw [NX.out],by go_num,by omega,Nat.le_refl _,RN,SN,BN,ON,EN⟩
              · have FIN:Hid (Upd p w w7):=q3
                have NO:Hid (¬ LvFit f m o N):=q1;clear q1 q3 KE;go_wp2_with fail;exact ⟨rfl,.inr ⟨NO.out,rfl,FIN.out⟩⟩
            · have FIN:Hid (Upd p w w6):=q3
              have NO:Hid (¬ LvFit f m o N):=q1;clear q1 q3 KE;go_wp2_with fail;exact ⟨rfl,.inr ⟨NO.out,rfl,FIN.out⟩⟩
          · have FIN:Hid (Upd p w w5):=q3
            have NO:Hid (¬ LvFit f m o N):=q1;clear q1 q3 KE;go_wp2_with fail;exact ⟨rfl,.inr ⟨NO.out,rfl,FIN.out⟩⟩
        · have tq:decide ((fr:Int)<(N:Int))=false:=by simpa using q
          have tq2:decide (fr<N)=false:=by simpa using q
          have NO:Hid (¬ LvFit f m o N):=fun t=>q (by have:=(t.seg i (by rw [HN.out];exact hlt)).fr;rw [HF.out,Int.toNat_natCast] at this;exact this)
          clear u ri subi SI bl q KE;go_wp2_with fail;refine (jneed_bad _).mono ?_;rintro e w4 ⟨rfl,hw⟩;subst hw;go_wp2_with fail;exact ⟨rfl,.inr ⟨NO.out,rfl,UI.out⟩⟩
      · have ei:i=n:=by omega
        subst ei;have FIN:Hid (LvFit f m o N/\SR wr w.heap.size (.slice (some ⟨b,0,none⟩) i i) (lvF f o key)):=⟨⟨A1.out.1,A1.out.2,fun t ht=>EI.out t (by rw [HN.out] at ht;exact ht)⟩,by
          have:=RI.out
          have e:=fillT_all (lvF f o key) sg0;rw [LV.out.1] at e;rw [e] at this;exact this⟩
        clear RI EI;go_wp2_with fail;go_ret;exact .inl ⟨FIN.out.1,b,by rw [HN.out];rfl,by rw [HN.out];exact FIN.out.2,by rw [HN.out];exact SI.out⟩
  · have FIN:Hid (Upd p w w2):=R
    have NO:Hid (¬ LvFit f m o N):=a;clear R a;go_wp2_with fail;exact ⟨rfl,.inr ⟨NO.out,rfl,FIN.out⟩⟩
def LvsOK (f:Nat->Int) (m:Nat):Prop:=(lO f<=m/\numR f (eOff f (nF f)) 8<=4294967296)/\∀ l,l<hF f->LvFit f m (lOff f (lO f) l) (belowN f l)
theorem LvsOK.upto {f:Nat->Int} {m:Nat} (h:LvsOK f m):∀ l,l<=hF f->lOff f (lO f) l<=m:=by
  intro l hl;cases l with
  | zero=>exact h.1.1
  | succ l =>
    have L:=h.2 l (by omega)
    have e:lOff f (lO f) (l+1)=lOff f (lO f) l+8+24*cF f (lOff f (lO f) l):=rfl;have a:=L.room;have b:=L.few;omega
theorem LvsOK.few {f:Nat->Int} {m:Nat} (h:LvsOK f m):hF f<=(m-lO f)/8:=by
  have a:=h.upto (hF f) (Nat.le_refl _);have b:=lOff_mono f (lO f) (Nat.zero_le (hF f));have c:lOff f (lO f) 0=lO f:=rfl;omega
theorem LF_at {f:Nat->Int} {i:Nat} (h:i<hF f):(LF f).getD i []=lvF f (lOff f (lO f) i) (rowF (kF f) (LF f) i):=lvsF_at f (hF f) (lO f) (kF f) i h
theorem LF_len (f:Nat->Int):(LF f).length=hF f:=lvsF_len f _ _ _
theorem belowN_eq {f:Nat->Int} {i:Nat} (h:i<=hF f):belowN f i=rowN (nF f) (LF f) i:=by
  unfold belowN rowN;by_cases z:i=0
  · rw [if_pos z,if_pos z]
  · rw [if_neg z,if_neg z]
    exact (lvsF_atlen f (hF f) (lO f) (kF f) (i-1) (by omega)).symm
theorem LF_ok {f:Nat->Int} {m:Nat} (bd:∀ i,i<m->0<=f i/\f i<256) (kb:∀ i,i<nF f->0<=kF f i/\kF f i<18446744073709551616):∀ i,i<=hF f->(∀ l,l<i->LvFit f m (lOff f (lO f) l) (belowN f l))->(∀ l,l<i->∀ j,j<((LF f).getD l []).length->(((LF f).getD l []).getD j sg0).ok)/\∀ t,t<rowN (nF f) (LF f) i->0<=rowF (kF f) (LF f) i t/\rowF (kF f) (LF f) i t<18446744073709551616:=by
  intro i;induction i with
  | zero=>intro _ _;exact ⟨fun l hl=>by omega,kb⟩
  | succ i ih =>
    intro hi h;obtain ⟨a,b⟩:=ih (by omega) (fun l hl=>h l (by omega))
    have L:=h i (by omega)
    rw [belowN_eq (by omega)] at L
    have e:=LF_at (f:=f) (i:=i) (by omega)
    have ok:∀ j,j<((LF f).getD i []).length->(((LF f).getD i []).getD j sg0).ok:=fun j hj=>by
      rw [e] at hj ⊢;rw [lvF_len] at hj;rw [lvF_at _ _ _ hj];exact lvF_ok bd b L.seg j hj
    refine ⟨fun l hl=>?_,fun t ht=>?_⟩
    · by_cases c:l=i
      · subst c;exact ok
      · exact a l (by omega)
    · have e1:rowF (kF f) (LF f) (i+1)=fst8 ((LF f).getD i []):=by unfold rowF;rw [if_neg (by omega)];rfl
      have e2:rowN (nF f) (LF f) (i+1)=((LF f).getD i []).length:=by unfold rowN;rw [if_neg (by omega)];rfl
      rw [e2] at ht;rw [e1];exact ⟨(ok t ht).k0,(ok t ht).k1⟩
theorem jlevels {w:World} {p:Nat} {S:Nat->Prop} {f:Nat->Int} {m:Nat} (hm:m<=140737488355000) (md:Mod f m) (om:eOff f (nF f)<=m) (bd:∀ i,i<m->0<=f i/\f i<256) (n1:nF f<=2000000) (bo:Option Addr) (bc:Nat) (kb:∀ a,bo=some a->a.block≠p) (hk:KS w bo (nF f) (kF f)) (h:Rd w p S f m (eOff f (nF f))) :
    Calls prog 123 #[.agg #[.pointer (some ⟨p,0,none⟩)],.slice bo (nF f) bc] w fun e w'=>(LvsOK f m/\∃ b vals,e=.returned (.slice (some ⟨b,0,none⟩) (hF f) (hF f))/\OwnV w' w.heap.size (.slice (some ⟨b,0,none⟩) (hF f) (hF f)) (LF f) vals/\hF f<=2000000/\RStep w w' p S f m (lOff f (lO f) (hF f)))\/(¬ LvsOK f m/\e=.panicked (thrown 120)/\Upd p w w'):=by
  have pl:=h.pl;have kbd:=hk.bd;have FZz:Hid (∀ q,S q->q<w.heap.size):=fun q hq=>RRd.lt h q hq
  have UA:Hid (Upd p w (w.alloc (.cells #[.pointer (some ⟨p,0,none⟩)] 186))):=.of_gw ((Gw.refl w).alloc _ _);have IT:=jitems 8 (by omega) (by omega) hm om (h.gw ((Gw.refl w).alloc #[.pointer (some ⟨p,0,none⟩)] 186))
  have b0:(w.alloc (.cells #[.pointer (some ⟨p,0,none⟩)] 186)).heap[w.heap.size]?=some (.cells #[.pointer (some ⟨p,0,none⟩)] 186 (0,0)):=heap_alloc_new w _;have C1:Hid (Calls prog 151 #[.agg #[.pointer (some ⟨p,0,none⟩)],.int .i64 8] (w.alloc (.cells #[.pointer (some ⟨p,0,none⟩)] 186)) fun e w'=>(((lO f<=m/\numR f (eOff f (nF f)) 8<=4294967296)/\hF f<=(m-lO f)/8)/\e=.returned (.int .i64 (hF f:Int))/\RStep w w' p S f m (lO f)/\w'.heap[w.heap.size]?=some (.cells #[.pointer (some ⟨p,0,none⟩)] 186 (0,0)))\/(¬ LvsOK f m/\e=.panicked (thrown 120)/\Upd p w w')):=IT.mono fun e w' hh=>by
    rcases hh with ⟨a,b,c⟩ | ⟨a,b,c⟩
    · exact .inl ⟨a,b,RStep.after UA.out (fun _ h=>h) c,(c.1.blk _ (by omega) (by simp)).trans b0⟩
    · exact .inr ⟨fun t=>a ⟨t.1,t.few⟩,b,UA.out.trans c⟩
  have MD:Hid (Mod f m):=md;have BDH:Hid (∀ i,i<m->0<=f i/\f i<256):=bd;have HK:Hid (KS w bo (nF f) (kF f)):=hk;have KBD:Hid (∀ i,i<nF f->0<=kF f i/\kF f i<18446744073709551616):=kbd;have N1:Hid (nF f<=2000000):=n1;have BW:Hid (∀ a,bo=some a->a.block≠p):=kb;clear h IT b0 UA bd hk kb kbd md n1;obtain ⟨n,hn⟩:∃ n,nF f=n:=⟨_,rfl⟩;have HN:Hid (nF f=n):=hn;rw [hn] at HK ⊢;clear hn;go_enter func123,ntmps123;go_wp2_with fail;refine C1.out.mono ?_;rintro e w2 hh;clear C1;rcases hh with ⟨⟨a1,a2⟩,rfl,R,B2⟩ | ⟨a,rfl,R⟩
  · have A1:Hid (lO f<=m/\numR f (eOff f (nF f)) 8<=4294967296):=a1
    have c1:=MD.out.h1 a2;obtain ⟨ht,hht⟩:∃ ht,hF f=ht:=⟨_,rfl⟩;have HH:Hid (hF f=ht):=hht;have LL:Hid ((LF f).length=ht):=by show _=_;rw [LF_len,hht]
    rw [hht] at c1 ⊢;have hmk:=made_vsm ht (by omega) w2
    have sz2:w.heap.size<w2.heap.size:=(Array.getElem?_eq_some_iff.1 B2).1;have OV0:Hid (∃ vals,OwnV (w2.alloc (.cells (madeCells #[.slice none 0 0] ht) 105)) w.heap.size (.slice (some ⟨w2.heap.size,0,none⟩) ht ht) (fillT (LF f) [] 0) vals):=by
      refine ⟨List.replicate ht nilS,?_⟩;rw [fillT_zero,LL.out];exact (ownv_made w2 ht (by omega)).base (by omega)
    have ST0:Hid (RStep w (w2.alloc (.cells (madeCells #[.slice none 0 0] ht) 105)) p S f m (lOff f (lO f) 0)):=R.gw ((Gw.refl w2).alloc _ _);have BX0:Hid ((w2.alloc (.cells (madeCells #[.slice none 0 0] ht) 105)).heap[w.heap.size]?=some (.cells #[.pointer (some ⟨p,0,none⟩)] 186 (0,0))):=(((Gw.refl w2).alloc _ _).below.block _ sz2).trans B2;have KS0:Hid (KS (w2.alloc (.cells (madeCells #[.slice none 0 0] ht) 105)) bo n (rowF (kF f) (LF f) 0)):=(HK.out.upd R.1 BW.out).gw ((Gw.refl w2).alloc _ _);obtain ⟨b,hb⟩:∃ b,b=w2.heap.size:=⟨_,rfl⟩;have bw:w.heap.size<b:=by omega
    clear R B2 hht a1 a2 HK;go_wp2_with fail;rw [<-hb] at OV0 ⊢;generalize w2.alloc (.cells (madeCells #[.slice none 0 0] ht) 105)=w3 at OV0 ST0 BX0 KS0 ⊢;clear hb hmk sz2;go_loopg [1,12] ht (fun gg s1 s12 wr=>∃ (i:Nat) (ao:Option Addr) (ac:Nat),s1=.slice ao (belowN f i) ac/\s12=.int .i64 i/\i<=ht/\ht-i<=gg/\Hid (∃ vals,OwnV wr w.heap.size (.slice (some ⟨b,0,none⟩) ht ht) (fillT (LF f) [] i) vals)/\Hid (RStep w wr p S f m (lOff f (lO f) i))/\Hid (wr.heap[w.heap.size]?=some (.cells #[.pointer (some ⟨p,0,none⟩)] 186 (0,0)))/\Hid (KS wr ao (belowN f i) (rowF (kF f) (LF f) i))/\Hid (∀ a,ao=some a->a.block≠p)/\Hid (lOff f (lO f) i<=m)/\Hid (∀ l,l<i->LvFit f m (lOff f (lO f) l) (belowN f l))/\Hid (belowN f i<=2000000))
    case atStart=>exact ⟨0,bo,bc,by unfold belowN;rw [if_pos rfl,HN.out],rfl,Nat.zero_le _,by omega,OV0,ST0,BX0,(by unfold belowN;rw [if_pos rfl,HN.out];exact KS0),BW,(show Hid _ from A1.out.1),(show Hid _ from fun t ht=>by omega),(by unfold belowN;rw [if_pos rfl];exact N1)⟩
    case round =>
      clear OV0 ST0 BX0 KS0 BW;obtain ⟨i,ao,ac,rfl,rfl,h1,h2,OI,SI,BI,KI,AI,MI,EI,NI⟩:=hrel;by_cases hlt:i<ht
      · obtain ⟨vals,OV⟩:=OI.out
        obtain ⟨u,Si,ri,subi⟩:=SI.out;have UI:Hid (Upd p w wr):=u;obtain ⟨x0,_⟩:=rd_cell BI.out;have xl:w.heap.size<wr.heap.size:=(Array.getElem?_eq_some_iff.1 BI.out).1;have hiF:i<hF f:=by rw [HH.out];exact hlt
        have CL:Hid (Calls prog 153 #[.agg #[.pointer (some ⟨p,0,none⟩)],.slice ao (belowN f i) ac] wr fun e w'=>(LvFit f m (lOff f (lO f) i) (belowN f i)/\∃ bl,e=.returned (.slice (some ⟨bl,0,none⟩) (cF f (lOff f (lO f) i)) (cF f (lOff f (lO f) i)))/\SR w' wr.heap.size (.slice (some ⟨bl,0,none⟩) (cF f (lOff f (lO f) i)) (cF f (lOff f (lO f) i))) ((LF f).getD i [])/\RStep wr w' p Si f m (lOff f (lO f) (i+1)))\/(¬ LvsOK f m/\e=.panicked (thrown 120)/\Upd p w w')):=(jlevel hm (MD.out.c1 i hiF) MI.out BDH.out ao (belowN f i) ac (rowF (kF f) (LF f) i) (by have:=NI.out;omega) AI.out KI.out ri).mono fun e w' hq=>by
          rcases hq with ⟨q1,bl,q2,q3,q4⟩ | ⟨q1,q2,q3⟩
          · exact .inl ⟨q1,bl,q2,by rw [LF_at hiF];exact q3,q4⟩
          · exact .inr ⟨fun t=>q1 (t.2 i hiF),q2,UI.out.trans q3⟩
        have bN:Hid (cF f (lOff f (lO f) i)=belowN f (i+1)):=by
          show _=_;unfold belowN;rw [if_neg (by omega)]
          rfl
        have OVH:Hid (OwnV wr w.heap.size (.slice (some ⟨b,0,none⟩) ht ht) (fillT (LF f) [] i) vals):=OV;have SB:Hid (∀ q,Si q->S q):=subi;clear u ri subi OV OI SI KI;go_wp2_with fail;refine CL.out.mono ?_;rintro e w5 hq;clear CL;rcases hq with ⟨q1,bl,rfl,q3,q4⟩ | ⟨q1,rfl,q3⟩
        · have BX5:=(q4.1.blk _ (by omega) xl).trans BI.out
          have fl:=fillT_len (LF f) [] i (by rw [LL.out];exact h1)
          rw [LL.out] at fl;have OV5:OwnV w5 w.heap.size (.slice (some ⟨b,0,none⟩) ht ht) (fillT (LF f) [] i) vals:=OVH.out.keep fun q hq hl=>q4.1.blk q (by omega) hl
          obtain ⟨bl5,_,cell5,fz5⟩:=ov_facts OV5;obtain ⟨y0,z0⟩:=cell5 i (by rw [fl];exact hlt)
          have g0:=fz5 i;have CN:cF f (lOff f (lO f) i)=((LF f).getD i []).length:=by rw [LF_at hiF,lvF_len]
          have OVN:Hid (∃ vals,OwnV (w5.setCell ⟨b,i,none⟩ (.slice (some ⟨bl,0,none⟩) (cF f (lOff f (lO f) i)) (cF f (lOff f (lO f) i)))) w.heap.size (.slice (some ⟨b,0,none⟩) ht ht) (fillT (LF f) [] (i+1)) vals):=by
            refine ⟨vals.set i (.slice (some ⟨bl,0,none⟩) (cF f (lOff f (lO f) i)) (cF f (lOff f (lO f) i))),?_⟩;have o1:OwnV wr w.heap.size (.slice (some ⟨b,0,none⟩) (fillT (LF f) [] i).length ht) (fillT (LF f) [] i) vals:=by rw [fl];exact OVH.out
            have o2:OwnV w5 w.heap.size (.slice (some ⟨b,0,none⟩) (fillT (LF f) [] i).length ht) (fillT (LF f) [] i) vals:=by rw [fl];exact OV5
            have:=OwnV.putU o1 o2 q3 (by omega) (i:=i) (by rw [fl];exact hlt)
            rw [fillT_set _ _ _ (by rw [LL.out];exact hlt),fillT_len _ _ _ (by rw [LL.out];omega),LL.out] at this
            exact this
          have SN:Hid (RStep w (w5.setCell ⟨b,i,none⟩ (.slice (some ⟨bl,0,none⟩) (cF f (lOff f (lO f) i)) (cF f (lOff f (lO f) i)))) p S f m (lOff f (lO f) (i+1))):=(RStep.after UI.out SB.out q4).setN (by omega) FZz.out _ _
          have EN:Hid (∀ l,l<i+1->LvFit f m (lOff f (lO f) l) (belowN f l)):=fun l hl=>by
            by_cases c:l=i
            · subst c;exact q1
            · exact EI.out l (by omega)
          have OKS:=(LF_ok BDH.out KBD.out (i+1) (by omega) EN.out).1 i (by omega)
          have BDN:=(LF_ok BDH.out KBD.out (i+1) (by omega) EN.out).2
          have s3:=(sr_lt q3 bl rfl);have SG:SR w5 wr.heap.size (.slice (some ⟨bl,0,none⟩) ((LF f).getD i []).length (cF f (lOff f (lO f) i))) ((LF f).getD i []):=by rw [<-CN];exact q3
          have GS5:GS (w5.setCell ⟨b,i,none⟩ (.slice (some ⟨bl,0,none⟩) (cF f (lOff f (lO f) i)) (cF f (lOff f (lO f) i)))) (some ⟨bl,0,none⟩) ((LF f).getD i []):=gs_kept (sr_gs SG OKS) (fun a ha=>by cases ha;exact Go.Deep.blk_setCell_other _ _ _ _ (by show bl≠b;have:=(ov_facts OVH.out).1;omega)) (by simp)
          have c2:cF f (lOff f (lO f) i)<=2000000:=MD.out.c1 i hiF q1.few;have FI:Hid (Calls prog 154 #[.slice (some ⟨bl,0,none⟩) (cF f (lOff f (lO f) i)) (cF f (lOff f (lO f) i))] (w5.setCell ⟨b,i,none⟩ (.slice (some ⟨bl,0,none⟩) (cF f (lOff f (lO f) i)) (cF f (lOff f (lO f) i)))) fun e w'=>(∃ b',e=.returned (.slice (some ⟨b',0,none⟩) (belowN f (i+1)) (belowN f (i+1)))/\w5.heap.size<=b'/\KS w' (some ⟨b',0,none⟩) (belowN f (i+1)) (rowF (kF f) (LF f) (i+1)))/\Gw (w5.setCell ⟨b,i,none⟩ (.slice (some ⟨bl,0,none⟩) (cF f (lOff f (lO f) i)) (cF f (lOff f (lO f) i)))) w'):=by
            have J:=jfirsts (some ⟨bl,0,none⟩) (cF f (lOff f (lO f) i)) ((LF f).getD i []) (by omega) _ GS5
            rw [<-CN] at J;refine J.mono fun e w' ⟨⟨b',j1,j2,j3⟩,j4⟩=>⟨⟨b',?_,by simpa using j2,?_⟩,j4⟩
            · rw [<-bN.out];exact j1
            · rw [<-belowN_eq (show i+1<=hF f by omega)] at BDN
              refine ks_row12 ?_ BDN;rw [<-bN.out];have e1:rowF (kF f) (LF f) (i+1)=fst8 ((LF f).getD i []):=by unfold rowF;rw [if_neg (by omega)];rfl
              rw [e1];exact j3
          have ON:Hid (lOff f (lO f) (i+1)<=m):=by
            show lOff f (lO f) i+8+24*cF f (lOff f (lO f) i)<=m;have a:=q1.room;have b:=q1.few;omega
          have NN:Hid (belowN f (i+1)<=2000000):=by rw [<-bN.out];exact c2
          have BN:Hid ((w5.setCell ⟨b,i,none⟩ (.slice (some ⟨bl,0,none⟩) (cF f (lOff f (lO f) i)) (cF f (lOff f (lO f) i)))).heap[w.heap.size]?=some (.cells #[.pointer (some ⟨p,0,none⟩)] 186 (0,0))):=(Go.Deep.blk_setCell_other _ _ _ _ (by show w.heap.size≠b;omega)).trans BX5
          have p5:p<w5.heap.size:=by have:=q4.1.size;omega
          clear GS5 OV5 SG q1 q3 q4 BX5 cell5 fz5 CN OKS BDN OVH s3 EI c2 fl;generalize cF f (lOff f (lO f) i)=cc at *;obtain ⟨nn,hnn⟩:∃ nn,belowN f (i+1)=nn:=⟨_,rfl⟩;have NNE:Hid (belowN f (i+1)=nn):=hnn;rw [hnn] at FI NN bN;clear hnn;go_wp2_with fail;refine FI.out.mono ?_;rintro e w6 ⟨⟨b',rfl,hb',ks6⟩,g6⟩;have OV6:Hid (∃ vals,OwnV w6 w.heap.size (.slice (some ⟨b,0,none⟩) ht ht) (fillT (LF f) [] (i+1)) vals):=by
            obtain ⟨vals,ov⟩:=OVN.out;exact ⟨vals,ov.gw g6⟩
          have SN6:Hid (RStep w w6 p S f m (lOff f (lO f) (i+1))):=SN.out.gw g6;have BN6:Hid (w6.heap[w.heap.size]?=some (.cells #[.pointer (some ⟨p,0,none⟩)] 186 (0,0))):=(g6.below.block _ (Array.getElem?_eq_some_iff.1 BN.out).1).trans BN.out;have KN6:Hid (KS w6 (some ⟨b',0,none⟩) nn (rowF (kF f) (LF f) (i+1))):=ks6;have AN6:Hid (∀ a,(some ⟨b',0,none⟩:Option Addr)=some a->a.block≠p):=fun a ha=>by cases ha;show b'≠p;omega
          clear ks6 g6 FI OVN SN BN;go_wp2_with fail;go_roundg (ht-(i+1))
          case measure=>omega
          case rel=>exact ⟨i+1,some ⟨b',0,none⟩,nn,by rw [NNE.out],by go_num,by omega,Nat.le_refl _,OV6,SN6,BN6,(by rw [NNE.out];exact KN6),AN6,ON,EN,(by rw [NNE.out];exact NN)⟩
        · have FIN:Hid (Upd p w w5):=q3
          have NO:Hid (¬ LvsOK f m):=q1;clear q1 q3;go_wp2_with fail;exact ⟨rfl,.inr ⟨NO.out,rfl,FIN.out⟩⟩
      · have ei:i=ht:=by omega
        subst ei;have FIN:Hid (LvsOK f m/\∃ vals,OwnV wr w.heap.size (.slice (some ⟨b,0,none⟩) i i) (LF f) vals):=⟨⟨A1.out,fun l hl=>EI.out l (by rw [HH.out] at hl;exact hl)⟩,by
          obtain ⟨vals,ov⟩:=OI.out;have e:=fillT_all (LF f) [];rw [LL.out] at e;rw [e] at ov;exact ⟨vals,ov⟩⟩
        clear OI EI;go_wp2_with fail;go_ret;obtain ⟨fa,vals,fb⟩:=FIN.out;exact .inl ⟨fa,b,vals,by rw [HH.out];rfl,by rw [HH.out];exact fb,by rw [HH.out];exact c1,by rw [HH.out];exact SI.out⟩
  · have FIN:Hid (Upd p w w2):=R
    have NO:Hid (¬ LvsOK f m):=a;clear R a;go_wp2_with fail;exact ⟨rfl,.inr ⟨NO.out,rfl,FIN.out⟩⟩
end Go.Proofs.YtpoohadckhphpaaGreat
namespace Go.Proofs.YtpoohadckhphpaaGreat
open Go.RowKit
def Fit (f:Nat->Int) (m:Nat):Prop:=FitB f m/\OfE (numR f 4 8) (kF f) (vF f) (gF f) (nF f) (LF f) 0
def GetOut (HR:World->Nat->(Nat->Prop)->Int->(Nat->Int)->(Nat->Int)->(Nat->Bool)->Nat->List (List Sg)->Prop) (w w':World) (e:Ending) (f:Nat->Int) (m:Nat):Prop :=
  (Fit f m/\∃ p S,e=.returned (.tuple #[.pointer (some ⟨p,0,none⟩),.int .i64 0])/\(∀ q,S q->w.heap.size<=q)/\HR w' p S (numR f 4 8) (kF f) (vF f) (gF f) (nF f) (LF f)/\RunG (numR f 4 8) (kF f) (vF f) (gF f) (nF f) (LF f))\/(¬ Fit f m/\e=.returned (.tuple #[.pointer none,.int .i64 120]))
theorem told12_any (err:Int) (w:World):Calls prog 119 #[.iface 25 (.int .i64 err)] w fun e w'=>e=.returned (.int .i64 err)/\w'=w:=by
  have ha:=assert_errno err;go_enter func119,ntmps119;go_wp2_with fail;go_ret;exact ⟨rfl,rfl⟩
theorem caught12 (bl be:Nat) (v0 v1:Value) (E:Int) (ne:¬ bl=be) (w:World) (h0:w.cell? ⟨bl,0,none⟩=some v0) (f0:w.frozen? ⟨bl,0,none⟩=false) (h1:w.cell? ⟨be,0,none⟩=some v1) (f1:w.frozen? ⟨be,0,none⟩=false) :
    CallsD prog 118 #[.pointer (some ⟨bl,0,none⟩),.pointer (some ⟨be,0,none⟩)] (.panicking (thrown E)) w fun e u' w' =>
      e=.returned (.tuple #[])/\u'=.panicking [{ v:=.iface 25 (.int .i64 E),recovered:=true }]/\w'=(w.setCell ⟨bl,0,none⟩ (.pointer none)).setCell ⟨be,0,none⟩ (.int .i64 E):=by
  refine callsD_of_wpS func118 rfl fun c₀ cs hu=>?_
  apply wpS_seq
  apply wpS_region
  simp [wpOpsS,go_sem,recoverD,hu,ntmps118,Exit.thenS]
  apply wpS_seq
  apply wpS_region
  simp [wpOpsS,go_sem,recoverD,Exit.thenS]
  refine wpS_cond (t:=true) (by simp [Act.eval,Array.replicate]) ?_
  simp only [if_true];refine wpS_of_wp ?_;change Code.wp _ _ _ ⟨#[.pointer (some ⟨bl,0,none⟩),.pointer (some ⟨be,0,none⟩),.iface 25 (.int .i64 E),.iface 25 (.int .i64 E),.iface 25 (.int .i64 E),.bool true,undef,undef],[]⟩ w;go_wp2_with fail;refine (told12_any E _).mono ?_;rintro e w1 ⟨rfl,rfl⟩;go_wp2_with fail;simp [bodyPostS,results,results118,go_sem]
theorem idle12 (bl be:Nat) (w:World) :
    CallsD prog 118 #[.pointer (some ⟨bl,0,none⟩),.pointer (some ⟨be,0,none⟩)] .returning w fun e u' w'=>e=.returned (.tuple #[])/\u'=.returning/\w'=w:=by
  refine callsD_of_wpS func118 rfl fun c₀ cs hu=>?_
  apply wpS_seq
  apply wpS_region
  simp [wpOpsS,go_sem,recoverD,hu,ntmps118,Exit.thenS]
  apply wpS_seq
  apply wpS_region
  simp [wpOpsS,go_sem,recoverD,Exit.thenS]
  refine wpS_cond (t:=false) (by simp [Act.eval,Array.replicate]) ?_
  simp only [Bool.false_eq_true,if_false];refine wpS_of_wp (wp_skip ?_);cases c₀
  simp_all [bodyPostS,results,results118]
structure GB (w:World) (br be:Nat) (v:Value) (W:World):Prop where
  gw:Gw w W
  rx:Box W br v 90
  ex:Box W be (.int .i64 0) 25
theorem GB.upd {w:World} {br be p:Nat} {v:Value} {W W':World} (h:GB w br be v W) (u:Upd p W W') (hp:w.heap.size<=p) (n1:br≠p) (n2:be≠p):GB w br be v W':=⟨u.gw w hp h.gw,(u.blk _ n1 h.rx.lt).trans h.rx,(u.blk _ n2 h.ex.lt).trans h.ex⟩
theorem GB.mono {w:World} {br be:Nat} {v:Value} {W W':World} (h:GB w br be v W) (g:Gw W W'):GB w br be v W':=⟨h.gw.trans g,h.rx.gw g,h.ex.gw g⟩
theorem ES.upd {w w':World} {eo:Option Addr} {n p:Nat} {k v:Nat->Int} {g:Nat->Bool} (h:ES w eo n k v g) (u:Upd p w w') (hb:∀ a,eo=some a->a.block≠p):ES w' eo n k v g :=
  ⟨fun h0=>by
    obtain ⟨b,off,e,hl,hc⟩:=h.cells h0;have eq:∀ o,w'.cell? ⟨b,o,none⟩=w.cell? ⟨b,o,none⟩:=fun o=>u.cell (hb _ e) hl o
    exact ⟨b,off,e,Nat.lt_of_lt_of_le hl u.size,fun i hi=>⟨(eq _).trans (hc i hi).1,(eq _).trans (hc i hi).2.1,(eq _).trans (hc i hi).2.2⟩⟩,h.bd⟩
theorem head_lies {f:Nat->Int}:(∀ i,i<(⟨#[73,78,67,49]⟩:ByteArray).size->f i=strB ⟨#[73,78,67,49]⟩ i)↔Lies f 0 headB:=by
  have e0:strB ⟨#[73,78,67,49]⟩ 0=73:=rfl;have e1:strB ⟨#[73,78,67,49]⟩ 1=78:=rfl;have e2:strB ⟨#[73,78,67,49]⟩ 2=67:=rfl;have e3:strB ⟨#[73,78,67,49]⟩ 3=49:=rfl;constructor
  · intro h i hi
    have hi4:i<4:=hi;have:=h i hi;rw [Nat.zero_add,this]
    match i,hi4 with
    | 0,_=>rw [e0];rfl
    | 1,_=>rw [e1];rfl
    | 2,_=>rw [e2];rfl
    | 3,_=>rw [e3];rfl
  · intro h i hi
    have hi4:i<4:=hi;have:=h i hi;rw [Nat.zero_add] at this
    match i,hi4 with
    | 0,_=>rw [e0];exact (Option.some.inj this).symm
    | 1,_=>rw [e1];exact (Option.some.inj this).symm
    | 2,_=>rw [e2];exact (Option.some.inj this).symm
    | 3,_=>rw [e3];exact (Option.some.inj this).symm
theorem jget {HR:World->Nat->(Nat->Prop)->Int->(Nat->Int)->(Nat->Int)->(Nat->Bool)->Nat->List (List Sg)->Prop} (H:RunC HR) (ao:Option Addr) (m cp:Nat) (f:Nat->Int) (hm:m<=140737488355000) (md:Mod f m) (w:World) (h:BS w ao m f) :
    Calls prog 71 #[.slice ao m cp] w fun e w'=>GetOut HR w w' e f m/\Gw w w':=by
  have hmf:∀ (fn:Fn) (first cap:Array Value) (w:World),(Instr.makeFunc fn first cap).run prog w=.ok (.func fn first cap) w:=fun _ _ _ _=>rfl
  have HH:Hid (RunC HR):=H;have MD:Hid (Mod f m):=md;have BD:Hid (∀ i,i<m->0<=f i/\f i<256):=h.bd;have HB:Hid (BS w ao m f):=h;clear h H md;have NW:Hid (∀ W,BS W ao m f->Calls prog 13 #[.slice ao m cp] W fun e w'=>(∃ p S,e=.returned (.pointer (some ⟨p,0,none⟩))/\RRd 86 w' p S f m/\∀ q,S q->W.heap.size<=q)/\Gw W w'):=fun W hb=>xnew_any ao m cp f hm W hb
  go_enter_defers func71,ntmps71
  go_wp2_with fail;have X0:Hid (GB w w.heap.size (w.heap.size+1) (.pointer none) ((w.alloc (.cells #[.pointer none] 90)).alloc (.cells #[.int .i64 0] 25))):=by
    refine ⟨((Gw.refl w).alloc _ _).alloc _ _,(Box.new w _ _).gw ((Gw.refl _).alloc _ _),?_⟩;have:=Box.new (w.alloc (.cells #[.pointer none] 90)) (.int .i64 0) 25;rw [show (w.alloc (.cells #[.pointer none] 90)).heap.size=w.heap.size+1 by simp] at this
    exact this
  have Z0:Hid (((w.alloc (.cells #[.pointer none] 90)).alloc (.cells #[.int .i64 0] 25)).heap.size=w.heap.size+2):=by show _=_;simp
  generalize ((w.alloc (.cells #[.pointer none] 90)).alloc (.cells #[.int .i64 0] 25))=w0 at X0 Z0 ⊢;obtain ⟨br,hbr⟩:∃ br,w.heap.size=br:=⟨_,rfl⟩;obtain ⟨be,hbe⟩:∃ be,br+1=be:=⟨_,rfl⟩;have BB:Hid (w.heap.size<=br/\w.heap.size<=be):=⟨by omega,by omega⟩
  have z0:=Z0.out;rw [hbr] at X0 z0;rw [hbe] at X0;rw [hbr,hbe];have ne:¬ br=be:=by omega
  refine (NW.out _ (HB.out.gw X0.out.gw)).mono ?_;rintro e w1 ⟨⟨p,S0,rfl,rd,hS⟩,g1⟩;have pS:=hS p (RRd.own rd);have np1:br≠p:=by omega
  have np2:be≠p:=by omega
  have np3:w.heap.size<=p:=by omega
  have X1:Hid (GB w br be (.pointer none) w1):=X0.out.mono g1;have RD1:Hid (Rd w1 p S0 f m 0):=by
    show RRd _ _ _ _ _ _;simpa using rd
  have pl1:p<w1.heap.size:=RRd.lt rd p (RRd.own rd);clear rd hS g1 X0 Z0 z0 NW HB hbr hbe pS;go_wp2_with fail;obtain ⟨bi,hbi⟩:∃ bi,w1.heap.size=bi:=⟨_,rfl⟩;have X2:Hid (GB w br be (.pointer none) (w1.alloc (.cells #[.pointer (some ⟨p,0,none⟩)] 186))):=X1.out.mono ((Gw.refl w1).alloc _ _);have RD2:Hid (Rd (w1.alloc (.cells #[.pointer (some ⟨p,0,none⟩)] 186)) p S0 f m 0):=RD1.out.gw ((Gw.refl w1).alloc _ _);have BX2:Hid ((w1.alloc (.cells #[.pointer (some ⟨p,0,none⟩)] 186)).heap[bi]?=some (.cells #[.pointer (some ⟨p,0,none⟩)] 186 (0,0))):=hbi▸heap_alloc_new w1 _;rw [hbi];have np4:bi≠p:=by omega
  generalize w1.alloc (.cells #[.pointer (some ⟨p,0,none⟩)] 186)=w2 at X2 RD2 BX2 ⊢;clear X1 RD1 hbi pl1;have BI:Hid (∀ W W',W.heap[bi]?=some (.cells #[.pointer (some ⟨p,0,none⟩)] 186 (0,0))->Upd p W W'->W'.heap[bi]?=some (.cells #[.pointer (some ⟨p,0,none⟩)] 186 (0,0))):=fun W W' hb u=>(u.blk bi np4 (Array.getElem?_eq_some_iff.1 hb).1).trans hb
  refine (jword ⟨#[73,78,67,49]⟩ hm RD2.out).mono ?_;rintro e w3 hq;rcases hq with ⟨q1,rfl,q3⟩ | ⟨q1,rfl,q3⟩
  rotate_left
  · have GX:Hid (GB w br be (.pointer none) w3):=X2.out.upd q3 np3 np1 np2
    have NF:Hid (¬ Fit f m):=fun t=>q1 ⟨t.1.hd.1,head_lies.2 t.1.hd.2⟩
    clear q1 q3 X2 RD2 BX2;go_wp2_with fail;refine leaves_cons (f:=118) (args:=#[.pointer (some ⟨br,0,none⟩),.pointer (some ⟨be,0,none⟩)]) (by simp) (by simp [go_sem]) ?_
    refine (caught12 br be _ _ 120 ne _ GX.out.rx.cell GX.out.rx.fz GX.out.ex.cell GX.out.ex.fz).mono ?_;rintro e u' wz ⟨rfl,rfl,rfl⟩;have cz:=(Box.other (GX.out.rx.set (.pointer none)) ⟨be,0,none⟩ (.int .i64 120) ne).cell;have dz:=(Box.set (Box.other GX.out.ex ⟨br,0,none⟩ (.pointer none) (fun e=>ne e.symm)) (.int .i64 120)).cell
    exact ⟨.tuple #[.pointer none,.int .i64 120],by simp [results,results71,go_sem,cz,dz],.inr ⟨NF.out,rfl⟩,(GX.out.gw.setCell (by show w.heap.size<=br;exact BB.out.1) _).setCell (by show w.heap.size<=be;exact BB.out.2) _⟩
  have Q3:Hid (4<=m/\Lies f 0 headB):=⟨q1.1,head_lies.1 q1.2⟩;obtain ⟨u3,S3,rd3,_⟩:=q3;have X3:Hid (GB w br be (.pointer none) w3):=X2.out.upd u3 np3 np1 np2;have RD3:Hid (Rd w3 p S3 f m 4):=rd3;have BX3:Hid (w3.heap[bi]?=some (.cells #[.pointer (some ⟨p,0,none⟩)] 186 (0,0))):=BI.out _ _ BX2.out u3;obtain ⟨x3,_⟩:=rd_cell BX3.out;have l3:bi<w3.heap.size:=(Array.getElem?_eq_some_iff.1 BX3.out).1;clear u3 rd3 q1 X2 RD2 BX2;go_wp2_with fail;refine (jcount 64 (by decide) (by decide) hm Q3.out.1 RD3.out).mono ?_
  rintro e w4 hq;rcases hq with ⟨q1,rfl,q3⟩ | ⟨q1,rfl,q3⟩
  rotate_left
  · have GX:Hid (GB w br be (.pointer none) w4):=X3.out.upd q3 np3 np1 np2
    have NF:Hid (¬ Fit f m):=fun t=>q1 t.1.ep
    clear q1 q3 X3 RD3 BX3 x3;go_wp2_with fail;refine leaves_cons (f:=118) (args:=#[.pointer (some ⟨br,0,none⟩),.pointer (some ⟨be,0,none⟩)]) (by simp) (by simp [go_sem]) ?_
    refine (caught12 br be _ _ 120 ne _ GX.out.rx.cell GX.out.rx.fz GX.out.ex.cell GX.out.ex.fz).mono ?_;rintro e u' wz ⟨rfl,rfl,rfl⟩;have cz:=(Box.other (GX.out.rx.set (.pointer none)) ⟨be,0,none⟩ (.int .i64 120) ne).cell;have dz:=(Box.set (Box.other GX.out.ex ⟨br,0,none⟩ (.pointer none) (fun e=>ne e.symm)) (.int .i64 120)).cell
    exact ⟨.tuple #[.pointer none,.int .i64 120],by simp [results,results71,go_sem,cz,dz],.inr ⟨NF.out,rfl⟩,(GX.out.gw.setCell (by show w.heap.size<=br;exact BB.out.1) _).setCell (by show w.heap.size<=be;exact BB.out.2) _⟩
  have Q4:Hid (12<=m/\numR f 4 8<=64):=q1;obtain ⟨u3,S4,rd3,_⟩:=q3;have X4:Hid (GB w br be (.pointer none) w4):=X3.out.upd u3 np3 np1 np2;have RD4:Hid (Rd w4 p S4 f m 12):=rd3;have BX4:Hid (w4.heap[bi]?=some (.cells #[.pointer (some ⟨p,0,none⟩)] 186 (0,0))):=BI.out _ _ BX3.out u3;obtain ⟨x4,_⟩:=rd_cell BX4.out;have l4:bi<w4.heap.size:=(Array.getElem?_eq_some_iff.1 BX4.out).1;clear u3 rd3 q1 X3 RD3 BX3 x3 l3;have ep0:0<=numR f 4 8:=(num_bd8 BD.out (show 4+8<=m from Q4.out.1)).1;have EPS:Hid (0<=numR f 4 8/\numR f 4 8<=64):=⟨ep0,Q4.out.2⟩;clear ep0;obtain ⟨eps,heps⟩:∃ eps,numR f 4 8=eps:=⟨_,rfl⟩;have HE:Hid (numR f 4 8=eps):=heps;rw [heps] at EPS;rw [show numR f 4 8=eps from heps];clear heps;go_wp2_with fail;refine (jentries hm MD.out Q4.out.1 BD.out RD4.out).mono ?_;rintro e w5 hq;rcases hq with ⟨q1,eb,rfl,qb,qe,q3⟩ | ⟨q1,rfl,q3⟩
  rotate_left
  · have GX:Hid (GB w br be (.pointer none) w5):=X4.out.upd q3 np3 np1 np2
    have NF:Hid (¬ Fit f m):=fun t=>q1 ⟨t.1.nn,t.1.en⟩
    clear q1 q3 X4 RD4 BX4 x4;go_wp2_with fail;refine leaves_cons (f:=118) (args:=#[.pointer (some ⟨br,0,none⟩),.pointer (some ⟨be,0,none⟩)]) (by simp) (by simp [go_sem]) ?_
    refine (caught12 br be _ _ 120 ne _ GX.out.rx.cell GX.out.rx.fz GX.out.ex.cell GX.out.ex.fz).mono ?_;rintro e u' wz ⟨rfl,rfl,rfl⟩;have cz:=(Box.other (GX.out.rx.set (.pointer none)) ⟨be,0,none⟩ (.int .i64 120) ne).cell;have dz:=(Box.set (Box.other GX.out.ex ⟨br,0,none⟩ (.pointer none) (fun e=>ne e.symm)) (.int .i64 120)).cell
    exact ⟨.tuple #[.pointer none,.int .i64 120],by simp [results,results71,go_sem,cz,dz],.inr ⟨NF.out,rfl⟩,(GX.out.gw.setCell (by show w.heap.size<=br;exact BB.out.1) _).setCell (by show w.heap.size<=be;exact BB.out.2) _⟩
  have Q5:Hid (EntOK f m):=q1;obtain ⟨u3,S5,rd3,_⟩:=q3;have X5:Hid (GB w br be (.pointer none) w5):=X4.out.upd u3 np3 np1 np2;have RD5:Hid (Rd w5 p S5 f m (eOff f (nF f))):=rd3;have BX5:Hid (w5.heap[bi]?=some (.cells #[.pointer (some ⟨p,0,none⟩)] 186 (0,0))):=BI.out _ _ BX4.out u3;have E5:Hid (ES w5 (some ⟨eb,0,none⟩) (nF f) (kF f) (vF f) (gF f)):=qe;have np5:eb≠p:=by have:=RD4.out.pl;omega
  have n1:Hid (nF f<=2000000):=MD.out.n1 q1.room;have oe:Hid (eOff f (nF f)<=m):=by
    show _<=_;cases hnn:nF f with
    | zero=>exact q1.1.1
    | succ i=>exact (q1.2 i (by omega)).2.2
  clear u3 rd3 q1 X4 RD4 BX4 x4 l4 qe qb;go_wp2_with fail;obtain ⟨x5,_⟩:=rd_cell BX5.out;have l5:bi<w5.heap.size:=(Array.getElem?_eq_some_iff.1 BX5.out).1;have p5:=RD5.out.pl;have KO:Hid (∀ W,Gw w5 W->Calls prog 124 #[.slice (some ⟨eb,0,none⟩) (nF f) (nF f)] W fun e w'=>(∃ b,e=.returned (.slice (some ⟨b,0,none⟩) (nF f) (nF f))/\W.heap.size<=b/\KS w' (some ⟨b,0,none⟩) (nF f) (kF f))/\Gw W w'):=fun W g=>(jkeysof (some ⟨eb,0,none⟩) (nF f) (nF f) (kF f) (vF f) (gF f) (by have:=n1.out;omega) W (E5.out.gw g)).mono fun e w' ⟨⟨b,a1,a2,a3⟩,a4⟩=>⟨⟨b,a1,a2,ks_row12 a3 fun i hi=>(E5.out.bd i hi).1⟩,a4⟩
  have LVC:Hid (∀ W b,Gw w5 W->b≠p->KS W (some ⟨b,0,none⟩) (nF f) (kF f)->_):=fun W b g hb ks=>jlevels hm MD.out oe.out BD.out n1.out (some ⟨b,0,none⟩) (nF f) (fun a ha=>by cases ha;exact hb) ks (RD5.out.gw g)
  obtain ⟨n,hn⟩:∃ n,nF f=n:=⟨_,rfl⟩;have HN:Hid (nF f=n):=hn;rw [hn] at KO LVC ⊢;clear hn;by_cases lvo:LvsOK f m
  · have LVO:Hid (LvsOK f m):=lvo
    have LV:Hid (∀ W b,Gw w5 W->b≠p->KS W (some ⟨b,0,none⟩) n (kF f)->Calls prog 123 #[.agg #[.pointer (some ⟨p,0,none⟩)],.slice (some ⟨b,0,none⟩) n n] W fun e w'=>∃ lb vals,e=.returned (.slice (some ⟨lb,0,none⟩) (hF f) (hF f))/\OwnV w' W.heap.size (.slice (some ⟨lb,0,none⟩) (hF f) (hF f)) (LF f) vals/\hF f<=2000000/\RStep W w' p S5 f m (lOff f (lO f) (hF f))):=fun W b g hb ks=>(LVC.out W b g hb ks).mono fun e w' hq=>by
      rcases hq with ⟨_,lb,vals,a1,a2,a3,a4⟩ | ⟨a,_⟩
      · exact ⟨lb,vals,a1,a2,a3,a4⟩
      · exact absurd LVO.out a
    clear lvo LVC;refine wp_region_any (by kernel_rfl) ?_
    change wpAny _ _ _ _ _ _ _ (World.drew _)
    refine wpAny_ready (rs:=[0,1]) (by kernel_rfl) (by simp) ?_
    refine AllReady.cons rfl (fun K hK=>?_) (AllReady.cons rfl (fun K hK=>?_) AllReady.nil)
    · go_simp
      refine hK _ _ ?_;clear hK K;refine wpAny_ready (rs:=[1]) (by kernel_rfl) (by simp) ?_
      refine AllReady.cons rfl (fun K hK=>?_) AllReady.nil
      go_simp
      refine hK _ _ ?_;clear hK K;refine wpAny_ready (rs:=[2]) (by kernel_rfl) (by simp) ?_
      refine AllReady.cons rfl (fun K hK=>?_) AllReady.nil
      go_simp
      refine (KO.out _ (Gw.drew (Gw.refl w5))).mono ?_;rintro e w6 ⟨⟨kb,rfl,hkb,ks6⟩,g6⟩;have G6:Hid (Gw w5 w6):=(Gw.drew (Gw.refl w5)).trans g6;have K6:Hid (KS w6 (some ⟨kb,0,none⟩) n (kF f)/\kb≠p):=⟨ks6,by have h9:w5.heap.size<=kb:=hkb;omega⟩
      have x6:=(G6.out.cell bi 0 l5).trans x5;have l6:bi<w6.heap.size:=Nat.lt_of_lt_of_le l5 G6.out.size;clear ks6 g6 hkb;refine hK _ _ ?_;clear hK K;refine wpAny_ready (rs:=[3]) (by kernel_rfl) (by simp) ?_
      refine AllReady.cons rfl (fun K hK=>?_) AllReady.nil
      go_simp
      refine (LV.out _ _ G6.out K6.out.2 K6.out.1).mono ?_;rintro e w7 ⟨lb,vals,rfl,ov7,h7,rs7⟩;have O7:Hid (OwnV w7 w6.heap.size (.slice (some ⟨lb,0,none⟩) (hF f) (hF f)) (LF f) vals/\hF f<=2000000/\RStep w6 w7 p S5 f m (lOff f (lO f) (hF f))):=⟨ov7,h7,rs7⟩;clear ov7 h7 rs7;refine hK _ _ ?_;clear hK K;refine wpAny_ready (rs:=[4]) (by kernel_rfl) (by simp) ?_
      refine AllReady.cons rfl (fun K hK=>?_) AllReady.nil
      go_simp
      refine hK _ _ ?_;clear hK K;refine wpAny_done (by kernel_rfl) ?_ _
      have LVZ:Hid (hF f<=2000000):=O7.out.2.1;obtain ⟨u7,S7,rd7,_⟩:=O7.out.2.2;have X7:Hid (GB w br be (.pointer none) w7):=(X5.out.mono G6.out).upd u7 np3 np1 np2;have RD7:Hid (Rd w7 p S7 f m (lOff f (lO f) (hF f))):=rd7;have BX7:=BI.out _ _ ((G6.out.below.block _ l5).trans BX5.out) u7;obtain ⟨x7,_⟩:=rd_cell BX7;have l7:bi<w7.heap.size:=(Array.getElem?_eq_some_iff.1 BX7).1;have E7:Hid (ES w7 (some ⟨eb,0,none⟩) (nF f) (kF f) (vF f) (gF f)):=(E5.out.gw G6.out).upd u7 (fun a ha=>by cases ha;exact np5)
      have OK7:=(LF_ok BD.out (fun i hi=>(E5.out.bd i hi).1) (hF f) (Nat.le_refl _) LVO.out.2).1
      have OKL:Hid (∀ i,i<(LF f).length->∀ j,j<((LF f).getD i []).length->(((LF f).getD i []).getD j sg0).ok):=fun i hi=>OK7 i (by rw [LF_len] at hi;exact hi)
      have V7:Hid (VS w7 (some ⟨lb,0,none⟩) (LF f)):=by
        have o7:=O7.out.1;rw [<-LF_len] at o7;exact (o7.vsf OKL.out).vs
      have SH7:Hid (Short (LF f)):=⟨by rw [LF_len];exact LVZ.out,fun i hi=>by
        rw [LF_len] at hi;rw [LF_at hi,lvF_len];exact MD.out.c1 i hi (LVO.out.2 i hi).few⟩
      have LE:=octr.left rd7;have LEF:Hid (Calls prog 19 #[.pointer (some ⟨p,0,none⟩)] w7 fun e w'=>e=.returned (.int .i64 ((m-lOff f (lO f) (hF f):Nat):Int))/\w'=w7):=LE
      have up7:=LVO.out.upto (hF f) (Nat.le_refl _);have OFC:=HH.out.of eps (some ⟨eb,0,none⟩) (nF f) (nF f) (kF f) (vF f) (gF f) (some ⟨lb,0,none⟩) (hF f) (LF f) (by have:=EPS.out;omega) (by have:=EPS.out;omega) n1.out (Nat.le_refl _) (fun h=>by cases h) SH7.out (by rw [LF_len];exact Nat.le_refl _) w7 E7.out V7.out
      rw [LF_len,HN.out] at OFC;have OFH:Hid (Calls prog 126 #[.slice (some ⟨eb,0,none⟩) n n,.int .i64 eps,.slice (some ⟨lb,0,none⟩) (hF f) (hF f)] w7 fun ex w'=>OfOutR HR w7 w' ex eps (kF f) (vF f) (gF f) n (LF f)/\Gw w7 w'):=OFC
      clear O7 u7 rd7 OK7 LE OFC BX7 x6 l6 K6 x5 l5 p5 KO LV;go_wp2_with fail;refine LEF.out.mono ?_;rintro e w8 ⟨rfl,hw⟩;subst hw;by_cases al:lOff f (lO f) (hF f)=m
      · have t0:(((m-lOff f (lO f) (hF f):Nat):Int) == 0)=true:=by simp;omega
        have t1:m-lOff f (lO f) (hF f)=0:=by omega
        have t2:m<=lOff f (lO f) (hF f):=by omega
        have AL:Hid (lOff f (lO f) (hF f)=m):=al;clear LEF al up7;rw [t1];go_wp2_with fail;refine (jneed_ok _).mono ?_;rintro e w8 ⟨rfl,hw⟩;subst hw;go_wp2_with fail;refine OFH.out.mono ?_;rintro e w9 ⟨⟨E,hE,hX⟩,g9⟩;have X9:Hid (GB w br be (.pointer none) w9):=X7.out.mono g9;have G9:Hid (Gw w8 w9):=g9;have OE:Hid (OfE eps (kF f) (vF f) (gF f) n (LF f) E):=hE;clear g9 hE OFH;have rc:=X9.out.rx.cell;have rf:=X9.out.rx.fz;have rl:=X9.out.rx.lt;rcases hX with ⟨e0,rfl⟩ | ⟨e0,pp,SS,rfl,hS,hR⟩
        · have t3:(E == 0)=false:=by simpa using e0
          have GX:Hid (GB w br be (.pointer none) (w9.setCell ⟨br,0,none⟩ (.pointer none))):=⟨X9.out.gw.setCell (by show w.heap.size<=br;exact BB.out.1) _,X9.out.rx.set _,X9.out.ex.other _ _ (fun e=>ne e.symm)⟩
          have NF:Hid (¬ Fit f m):=fun t=>e0 (by
            have:=t.2
            rw [HE.out,HN.out] at this;exact OE.out.one this)
          clear e0;go_wp2_with fail;refine (jneed_bad _).mono ?_;rintro e wa ⟨rfl,hw⟩;subst hw;go_wp2_with fail;refine leaves_cons (f:=118) (args:=#[.pointer (some ⟨br,0,none⟩),.pointer (some ⟨be,0,none⟩)]) (by simp) (by simp [go_sem]) ?_
          refine (caught12 br be _ _ 120 ne _ GX.out.rx.cell GX.out.rx.fz GX.out.ex.cell GX.out.ex.fz).mono ?_;rintro e u' wz ⟨rfl,rfl,rfl⟩;have cz:=(Box.other (GX.out.rx.set (.pointer none)) ⟨be,0,none⟩ (.int .i64 120) ne).cell;have dz:=(Box.set (Box.other GX.out.ex ⟨br,0,none⟩ (.pointer none) (fun e=>ne e.symm)) (.int .i64 120)).cell
          exact ⟨.tuple #[.pointer none,.int .i64 120],by simp [results,results71,go_sem,cz,dz],.inr ⟨NF.out,rfl⟩,(GX.out.gw.setCell (by show w.heap.size<=br;exact BB.out.1) _).setCell (by show w.heap.size<=be;exact BB.out.2) _⟩
        · subst e0
          have FT:Fit f m:=⟨⟨Q3.out,Q4.out,Q5.out.1,Q5.out.2,LVO.out.1,LVO.out.2,AL.out⟩,by rw [HE.out,HN.out];exact OE.out⟩
          have sB:∀ q,SS q->w.heap.size<=q:=fun q hq=>by have:=hS q hq;have:=X7.out.gw.size;omega
          have nb:∀ q,SS q->q≠br/\q≠be:=fun q hq=>by
            have:=hS q hq
            have a:=X7.out.rx.lt;have b:=X7.out.ex.lt;omega
          have RES:Hid (GetOut HR w (((w9.setCell ⟨br,0,none⟩ (.pointer (some ⟨pp,0,none⟩))).setCell ⟨br,0,none⟩ (.pointer (some ⟨pp,0,none⟩))).setCell ⟨be,0,none⟩ (.int .i64 0)) (.returned (.tuple #[.pointer (some ⟨pp,0,none⟩),.int .i64 0])) f m):=by
            have hR2:HR (((w9.setCell ⟨br,0,none⟩ (.pointer (some ⟨pp,0,none⟩))).setCell ⟨br,0,none⟩ (.pointer (some ⟨pp,0,none⟩))).setCell ⟨be,0,none⟩ (.int .i64 0)) pp SS eps (kF f) (vF f) (gF f) n (LF f):=HH.out.keep hR fun q hq=>by
              rw [Go.Deep.blk_setCell_other _ _ _ _ (nb q hq).2,Go.Deep.blk_setCell_other _ _ _ _ (nb q hq).1,Go.Deep.blk_setCell_other _ _ _ _ (nb q hq).1]
            refine .inl ⟨FT,pp,SS,rfl,sB,?_,?_⟩
            · rw [HE.out,HN.out];exact hR2
            · rw [HE.out]
              have h2:=HH.out.ready hR2;rw [<-HN.out] at h2;exact ⟨h2,by rw [HN.out];exact OE.out,E7.out.bd,OKL.out⟩
          have GF:Hid (Gw w (((w9.setCell ⟨br,0,none⟩ (.pointer (some ⟨pp,0,none⟩))).setCell ⟨br,0,none⟩ (.pointer (some ⟨pp,0,none⟩))).setCell ⟨be,0,none⟩ (.int .i64 0))):=((X9.out.gw.setCell (by show w.heap.size<=br;exact BB.out.1) _).setCell (by show w.heap.size<=br;exact BB.out.1) _).setCell (by show w.heap.size<=be;exact BB.out.2) _
          have ec:=X9.out.ex.cell;have ef:=X9.out.ex.fz;have el:=X9.out.ex.lt;have ne':¬ be=br:=fun e=>ne e.symm
          have c5:=(Box.other ((X9.out.rx.set (.pointer (some ⟨pp,0,none⟩))).set (.pointer (some ⟨pp,0,none⟩))) ⟨be,0,none⟩ (.int .i64 0) ne).cell;have d5:=(Box.set (Box.other (Box.other X9.out.ex ⟨br,0,none⟩ (.pointer (some ⟨pp,0,none⟩)) ne') ⟨br,0,none⟩ (.pointer (some ⟨pp,0,none⟩)) ne') (.int .i64 0)).cell;clear hR hS FT sB nb;go_wp2_with fail;refine (jneed_ok _).mono ?_;rintro e wa ⟨rfl,hw⟩;subst hw;go_wp2_with fail;refine leaves_cons (f:=118) (args:=#[.pointer (some ⟨br,0,none⟩),.pointer (some ⟨be,0,none⟩)]) (by simp) (by simp [go_sem]) ?_
          refine (idle12 br be _).mono ?_;rintro e u' wz ⟨rfl,rfl,rfl⟩;exact ⟨.tuple #[.pointer (some ⟨pp,0,none⟩),.int .i64 0],by simp [results,results71,go_sem,c5,d5],RES.out,GF.out⟩
      · have t0:(((m-lOff f (lO f) (hF f):Nat):Int) == 0)=false:=by simp;omega
        have t1:¬ m-lOff f (lO f) (hF f)=0:=by omega
        have t2:¬ m<=lOff f (lO f) (hF f):=by omega
        have NF:Hid (¬ Fit f m):=fun t=>al t.1.all
        have GX:Hid (GB w br be (.pointer none) w8):=X7.out;generalize m-lOff f (lO f) (hF f)=mm at *;clear LEF al up7 t2 OFH;go_wp2_with fail;refine (jneed_bad _).mono ?_;rintro e wa ⟨rfl,hw⟩;subst hw;go_wp2_with fail;refine leaves_cons (f:=118) (args:=#[.pointer (some ⟨br,0,none⟩),.pointer (some ⟨be,0,none⟩)]) (by simp) (by simp [go_sem]) ?_
        refine (caught12 br be _ _ 120 ne _ GX.out.rx.cell GX.out.rx.fz GX.out.ex.cell GX.out.ex.fz).mono ?_;rintro e u' wz ⟨rfl,rfl,rfl⟩;have cz:=(Box.other (GX.out.rx.set (.pointer none)) ⟨be,0,none⟩ (.int .i64 120) ne).cell;have dz:=(Box.set (Box.other GX.out.ex ⟨br,0,none⟩ (.pointer none) (fun e=>ne e.symm)) (.int .i64 120)).cell
        exact ⟨.tuple #[.pointer none,.int .i64 120],by simp [results,results71,go_sem,cz,dz],.inr ⟨NF.out,rfl⟩,(GX.out.gw.setCell (by show w.heap.size<=br;exact BB.out.1) _).setCell (by show w.heap.size<=be;exact BB.out.2) _⟩
    · go_simp
      refine hK _ _ ?_;clear hK K;refine wpAny_ready (rs:=[0,2]) (by kernel_rfl) (by simp) ?_
      refine AllReady.cons rfl (fun K hK=>?_) (AllReady.cons rfl (fun K hK=>?_) AllReady.nil)
      · go_simp
        refine hK _ _ ?_;clear hK K;refine wpAny_ready (rs:=[2]) (by kernel_rfl) (by simp) ?_
        refine AllReady.cons rfl (fun K hK=>?_) AllReady.nil
        go_simp
        refine (KO.out _ (Gw.drew (Gw.refl w5))).mono ?_;rintro e w6 ⟨⟨kb,rfl,hkb,ks6⟩,g6⟩;have G6:Hid (Gw w5 w6):=(Gw.drew (Gw.refl w5)).trans g6;have K6:Hid (KS w6 (some ⟨kb,0,none⟩) n (kF f)/\kb≠p):=⟨ks6,by have h9:w5.heap.size<=kb:=hkb;omega⟩
        have x6:=(G6.out.cell bi 0 l5).trans x5;have l6:bi<w6.heap.size:=Nat.lt_of_lt_of_le l5 G6.out.size;clear ks6 g6 hkb;refine hK _ _ ?_;clear hK K;refine wpAny_ready (rs:=[3]) (by kernel_rfl) (by simp) ?_
        refine AllReady.cons rfl (fun K hK=>?_) AllReady.nil
        go_simp
        refine (LV.out _ _ G6.out K6.out.2 K6.out.1).mono ?_;rintro e w7 ⟨lb,vals,rfl,ov7,h7,rs7⟩;have O7:Hid (OwnV w7 w6.heap.size (.slice (some ⟨lb,0,none⟩) (hF f) (hF f)) (LF f) vals/\hF f<=2000000/\RStep w6 w7 p S5 f m (lOff f (lO f) (hF f))):=⟨ov7,h7,rs7⟩;clear ov7 h7 rs7;refine hK _ _ ?_;clear hK K;refine wpAny_ready (rs:=[4]) (by kernel_rfl) (by simp) ?_
        refine AllReady.cons rfl (fun K hK=>?_) AllReady.nil
        go_simp
        refine hK _ _ ?_;clear hK K;refine wpAny_done (by kernel_rfl) ?_ _
        have LVZ:Hid (hF f<=2000000):=O7.out.2.1;obtain ⟨u7,S7,rd7,_⟩:=O7.out.2.2;have X7:Hid (GB w br be (.pointer none) w7):=(X5.out.mono G6.out).upd u7 np3 np1 np2;have RD7:Hid (Rd w7 p S7 f m (lOff f (lO f) (hF f))):=rd7;have BX7:=BI.out _ _ ((G6.out.below.block _ l5).trans BX5.out) u7;obtain ⟨x7,_⟩:=rd_cell BX7;have l7:bi<w7.heap.size:=(Array.getElem?_eq_some_iff.1 BX7).1;have E7:Hid (ES w7 (some ⟨eb,0,none⟩) (nF f) (kF f) (vF f) (gF f)):=(E5.out.gw G6.out).upd u7 (fun a ha=>by cases ha;exact np5)
        have OK7:=(LF_ok BD.out (fun i hi=>(E5.out.bd i hi).1) (hF f) (Nat.le_refl _) LVO.out.2).1
        have OKL:Hid (∀ i,i<(LF f).length->∀ j,j<((LF f).getD i []).length->(((LF f).getD i []).getD j sg0).ok):=fun i hi=>OK7 i (by rw [LF_len] at hi;exact hi)
        have V7:Hid (VS w7 (some ⟨lb,0,none⟩) (LF f)):=by
          have o7:=O7.out.1;rw [<-LF_len] at o7;exact (o7.vsf OKL.out).vs
        have SH7:Hid (Short (LF f)):=⟨by rw [LF_len];exact LVZ.out,fun i hi=>by
          rw [LF_len] at hi;rw [LF_at hi,lvF_len];exact MD.out.c1 i hi (LVO.out.2 i hi).few⟩
        have LE:=octr.left rd7;have LEF:Hid (Calls prog 19 #[.pointer (some ⟨p,0,none⟩)] w7 fun e w'=>e=.returned (.int .i64 ((m-lOff f (lO f) (hF f):Nat):Int))/\w'=w7):=LE
        have up7:=LVO.out.upto (hF f) (Nat.le_refl _);have OFC:=HH.out.of eps (some ⟨eb,0,none⟩) (nF f) (nF f) (kF f) (vF f) (gF f) (some ⟨lb,0,none⟩) (hF f) (LF f) (by have:=EPS.out;omega) (by have:=EPS.out;omega) n1.out (Nat.le_refl _) (fun h=>by cases h) SH7.out (by rw [LF_len];exact Nat.le_refl _) w7 E7.out V7.out
        rw [LF_len,HN.out] at OFC;have OFH:Hid (Calls prog 126 #[.slice (some ⟨eb,0,none⟩) n n,.int .i64 eps,.slice (some ⟨lb,0,none⟩) (hF f) (hF f)] w7 fun ex w'=>OfOutR HR w7 w' ex eps (kF f) (vF f) (gF f) n (LF f)/\Gw w7 w'):=OFC
        clear O7 u7 rd7 OK7 LE OFC BX7 x6 l6 K6 x5 l5 p5 KO LV;go_wp2_with fail;refine LEF.out.mono ?_;rintro e w8 ⟨rfl,hw⟩;subst hw;by_cases al:lOff f (lO f) (hF f)=m
        · have t0:(((m-lOff f (lO f) (hF f):Nat):Int) == 0)=true:=by simp;omega
          have t1:m-lOff f (lO f) (hF f)=0:=by omega
          have t2:m<=lOff f (lO f) (hF f):=by omega
          have AL:Hid (lOff f (lO f) (hF f)=m):=al;clear LEF al up7;rw [t1];go_wp2_with fail;refine (jneed_ok _).mono ?_;rintro e w8 ⟨rfl,hw⟩;subst hw;go_wp2_with fail;refine OFH.out.mono ?_;rintro e w9 ⟨⟨E,hE,hX⟩,g9⟩;have X9:Hid (GB w br be (.pointer none) w9):=X7.out.mono g9;have G9:Hid (Gw w8 w9):=g9;have OE:Hid (OfE eps (kF f) (vF f) (gF f) n (LF f) E):=hE;clear g9 hE OFH;have rc:=X9.out.rx.cell;have rf:=X9.out.rx.fz;have rl:=X9.out.rx.lt;rcases hX with ⟨e0,rfl⟩ | ⟨e0,pp,SS,rfl,hS,hR⟩
          · have t3:(E == 0)=false:=by simpa using e0
            have GX:Hid (GB w br be (.pointer none) (w9.setCell ⟨br,0,none⟩ (.pointer none))):=⟨X9.out.gw.setCell (by show w.heap.size<=br;exact BB.out.1) _,X9.out.rx.set _,X9.out.ex.other _ _ (fun e=>ne e.symm)⟩
            have NF:Hid (¬ Fit f m):=fun t=>e0 (by
              have:=t.2
              rw [HE.out,HN.out] at this;exact OE.out.one this)
            clear e0;go_wp2_with fail;refine (jneed_bad _).mono ?_;rintro e wa ⟨rfl,hw⟩;subst hw;go_wp2_with fail;refine leaves_cons (f:=118) (args:=#[.pointer (some ⟨br,0,none⟩),.pointer (some ⟨be,0,none⟩)]) (by simp) (by simp [go_sem]) ?_
            refine (caught12 br be _ _ 120 ne _ GX.out.rx.cell GX.out.rx.fz GX.out.ex.cell GX.out.ex.fz).mono ?_;rintro e u' wz ⟨rfl,rfl,rfl⟩;have cz:=(Box.other (GX.out.rx.set (.pointer none)) ⟨be,0,none⟩ (.int .i64 120) ne).cell;have dz:=(Box.set (Box.other GX.out.ex ⟨br,0,none⟩ (.pointer none) (fun e=>ne e.symm)) (.int .i64 120)).cell
            exact ⟨.tuple #[.pointer none,.int .i64 120],by simp [results,results71,go_sem,cz,dz],.inr ⟨NF.out,rfl⟩,(GX.out.gw.setCell (by show w.heap.size<=br;exact BB.out.1) _).setCell (by show w.heap.size<=be;exact BB.out.2) _⟩
          · subst e0
            have FT:Fit f m:=⟨⟨Q3.out,Q4.out,Q5.out.1,Q5.out.2,LVO.out.1,LVO.out.2,AL.out⟩,by rw [HE.out,HN.out];exact OE.out⟩
            have sB:∀ q,SS q->w.heap.size<=q:=fun q hq=>by have:=hS q hq;have:=X7.out.gw.size;omega
            have nb:∀ q,SS q->q≠br/\q≠be:=fun q hq=>by
              have:=hS q hq
              have a:=X7.out.rx.lt;have b:=X7.out.ex.lt;omega
            have RES:Hid (GetOut HR w (((w9.setCell ⟨br,0,none⟩ (.pointer (some ⟨pp,0,none⟩))).setCell ⟨br,0,none⟩ (.pointer (some ⟨pp,0,none⟩))).setCell ⟨be,0,none⟩ (.int .i64 0)) (.returned (.tuple #[.pointer (some ⟨pp,0,none⟩),.int .i64 0])) f m):=by
              have hR2:HR (((w9.setCell ⟨br,0,none⟩ (.pointer (some ⟨pp,0,none⟩))).setCell ⟨br,0,none⟩ (.pointer (some ⟨pp,0,none⟩))).setCell ⟨be,0,none⟩ (.int .i64 0)) pp SS eps (kF f) (vF f) (gF f) n (LF f):=HH.out.keep hR fun q hq=>by
                rw [Go.Deep.blk_setCell_other _ _ _ _ (nb q hq).2,Go.Deep.blk_setCell_other _ _ _ _ (nb q hq).1,Go.Deep.blk_setCell_other _ _ _ _ (nb q hq).1]
              refine .inl ⟨FT,pp,SS,rfl,sB,?_,?_⟩
              · rw [HE.out,HN.out];exact hR2
              · rw [HE.out]
                have h2:=HH.out.ready hR2;rw [<-HN.out] at h2;exact ⟨h2,by rw [HN.out];exact OE.out,E7.out.bd,OKL.out⟩
            have GF:Hid (Gw w (((w9.setCell ⟨br,0,none⟩ (.pointer (some ⟨pp,0,none⟩))).setCell ⟨br,0,none⟩ (.pointer (some ⟨pp,0,none⟩))).setCell ⟨be,0,none⟩ (.int .i64 0))):=((X9.out.gw.setCell (by show w.heap.size<=br;exact BB.out.1) _).setCell (by show w.heap.size<=br;exact BB.out.1) _).setCell (by show w.heap.size<=be;exact BB.out.2) _
            have ec:=X9.out.ex.cell;have ef:=X9.out.ex.fz;have el:=X9.out.ex.lt;have ne':¬ be=br:=fun e=>ne e.symm
            have c5:=(Box.other ((X9.out.rx.set (.pointer (some ⟨pp,0,none⟩))).set (.pointer (some ⟨pp,0,none⟩))) ⟨be,0,none⟩ (.int .i64 0) ne).cell;have d5:=(Box.set (Box.other (Box.other X9.out.ex ⟨br,0,none⟩ (.pointer (some ⟨pp,0,none⟩)) ne') ⟨br,0,none⟩ (.pointer (some ⟨pp,0,none⟩)) ne') (.int .i64 0)).cell;clear hR hS FT sB nb;go_wp2_with fail;refine (jneed_ok _).mono ?_;rintro e wa ⟨rfl,hw⟩;subst hw;go_wp2_with fail;refine leaves_cons (f:=118) (args:=#[.pointer (some ⟨br,0,none⟩),.pointer (some ⟨be,0,none⟩)]) (by simp) (by simp [go_sem]) ?_
            refine (idle12 br be _).mono ?_;rintro e u' wz ⟨rfl,rfl,rfl⟩;exact ⟨.tuple #[.pointer (some ⟨pp,0,none⟩),.int .i64 0],by simp [results,results71,go_sem,c5,d5],RES.out,GF.out⟩
        · have t0:(((m-lOff f (lO f) (hF f):Nat):Int) == 0)=false:=by simp;omega
          have t1:¬ m-lOff f (lO f) (hF f)=0:=by omega
          have t2:¬ m<=lOff f (lO f) (hF f):=by omega
          have NF:Hid (¬ Fit f m):=fun t=>al t.1.all
          have GX:Hid (GB w br be (.pointer none) w8):=X7.out;generalize m-lOff f (lO f) (hF f)=mm at *;clear LEF al up7 t2 OFH;go_wp2_with fail;refine (jneed_bad _).mono ?_;rintro e wa ⟨rfl,hw⟩;subst hw;go_wp2_with fail;refine leaves_cons (f:=118) (args:=#[.pointer (some ⟨br,0,none⟩),.pointer (some ⟨be,0,none⟩)]) (by simp) (by simp [go_sem]) ?_
          refine (caught12 br be _ _ 120 ne _ GX.out.rx.cell GX.out.rx.fz GX.out.ex.cell GX.out.ex.fz).mono ?_;rintro e u' wz ⟨rfl,rfl,rfl⟩;have cz:=(Box.other (GX.out.rx.set (.pointer none)) ⟨be,0,none⟩ (.int .i64 120) ne).cell;have dz:=(Box.set (Box.other GX.out.ex ⟨br,0,none⟩ (.pointer none) (fun e=>ne e.symm)) (.int .i64 120)).cell
          exact ⟨.tuple #[.pointer none,.int .i64 120],by simp [results,results71,go_sem,cz,dz],.inr ⟨NF.out,rfl⟩,(GX.out.gw.setCell (by show w.heap.size<=br;exact BB.out.1) _).setCell (by show w.heap.size<=be;exact BB.out.2) _⟩
      · go_simp
        refine (KO.out _ (Gw.drew (Gw.refl w5))).mono ?_;rintro e w6 ⟨⟨kb,rfl,hkb,ks6⟩,g6⟩;have G6:Hid (Gw w5 w6):=(Gw.drew (Gw.refl w5)).trans g6;have K6:Hid (KS w6 (some ⟨kb,0,none⟩) n (kF f)/\kb≠p):=⟨ks6,by have h9:w5.heap.size<=kb:=hkb;omega⟩
        have x6:=(G6.out.cell bi 0 l5).trans x5;have l6:bi<w6.heap.size:=Nat.lt_of_lt_of_le l5 G6.out.size;clear ks6 g6 hkb;refine hK _ _ ?_;clear hK K;refine wpAny_ready (rs:=[0]) (by kernel_rfl) (by simp) ?_
        refine AllReady.cons rfl (fun K hK=>?_) AllReady.nil
        go_simp
        refine hK _ _ ?_;clear hK K;refine wpAny_ready (rs:=[3]) (by kernel_rfl) (by simp) ?_
        refine AllReady.cons rfl (fun K hK=>?_) AllReady.nil
        go_simp
        refine (LV.out _ _ G6.out K6.out.2 K6.out.1).mono ?_;rintro e w7 ⟨lb,vals,rfl,ov7,h7,rs7⟩;have O7:Hid (OwnV w7 w6.heap.size (.slice (some ⟨lb,0,none⟩) (hF f) (hF f)) (LF f) vals/\hF f<=2000000/\RStep w6 w7 p S5 f m (lOff f (lO f) (hF f))):=⟨ov7,h7,rs7⟩;clear ov7 h7 rs7;refine hK _ _ ?_;clear hK K;refine wpAny_ready (rs:=[4]) (by kernel_rfl) (by simp) ?_
        refine AllReady.cons rfl (fun K hK=>?_) AllReady.nil
        go_simp
        refine hK _ _ ?_;clear hK K;refine wpAny_done (by kernel_rfl) ?_ _
        have LVZ:Hid (hF f<=2000000):=O7.out.2.1;obtain ⟨u7,S7,rd7,_⟩:=O7.out.2.2;have X7:Hid (GB w br be (.pointer none) w7):=(X5.out.mono G6.out).upd u7 np3 np1 np2;have RD7:Hid (Rd w7 p S7 f m (lOff f (lO f) (hF f))):=rd7;have BX7:=BI.out _ _ ((G6.out.below.block _ l5).trans BX5.out) u7;obtain ⟨x7,_⟩:=rd_cell BX7;have l7:bi<w7.heap.size:=(Array.getElem?_eq_some_iff.1 BX7).1;have E7:Hid (ES w7 (some ⟨eb,0,none⟩) (nF f) (kF f) (vF f) (gF f)):=(E5.out.gw G6.out).upd u7 (fun a ha=>by cases ha;exact np5)
        have OK7:=(LF_ok BD.out (fun i hi=>(E5.out.bd i hi).1) (hF f) (Nat.le_refl _) LVO.out.2).1
        have OKL:Hid (∀ i,i<(LF f).length->∀ j,j<((LF f).getD i []).length->(((LF f).getD i []).getD j sg0).ok):=fun i hi=>OK7 i (by rw [LF_len] at hi;exact hi)
        have V7:Hid (VS w7 (some ⟨lb,0,none⟩) (LF f)):=by
          have o7:=O7.out.1;rw [<-LF_len] at o7;exact (o7.vsf OKL.out).vs
        have SH7:Hid (Short (LF f)):=⟨by rw [LF_len];exact LVZ.out,fun i hi=>by
          rw [LF_len] at hi;rw [LF_at hi,lvF_len];exact MD.out.c1 i hi (LVO.out.2 i hi).few⟩
        have LE:=octr.left rd7;have LEF:Hid (Calls prog 19 #[.pointer (some ⟨p,0,none⟩)] w7 fun e w'=>e=.returned (.int .i64 ((m-lOff f (lO f) (hF f):Nat):Int))/\w'=w7):=LE
        have up7:=LVO.out.upto (hF f) (Nat.le_refl _);have OFC:=HH.out.of eps (some ⟨eb,0,none⟩) (nF f) (nF f) (kF f) (vF f) (gF f) (some ⟨lb,0,none⟩) (hF f) (LF f) (by have:=EPS.out;omega) (by have:=EPS.out;omega) n1.out (Nat.le_refl _) (fun h=>by cases h) SH7.out (by rw [LF_len];exact Nat.le_refl _) w7 E7.out V7.out
        rw [LF_len,HN.out] at OFC;have OFH:Hid (Calls prog 126 #[.slice (some ⟨eb,0,none⟩) n n,.int .i64 eps,.slice (some ⟨lb,0,none⟩) (hF f) (hF f)] w7 fun ex w'=>OfOutR HR w7 w' ex eps (kF f) (vF f) (gF f) n (LF f)/\Gw w7 w'):=OFC
        clear O7 u7 rd7 OK7 LE OFC BX7 x6 l6 K6 x5 l5 p5 KO LV;go_wp2_with fail;refine LEF.out.mono ?_;rintro e w8 ⟨rfl,hw⟩;subst hw;by_cases al:lOff f (lO f) (hF f)=m
        · have t0:(((m-lOff f (lO f) (hF f):Nat):Int) == 0)=true:=by simp;omega
          have t1:m-lOff f (lO f) (hF f)=0:=by omega
          have t2:m<=lOff f (lO f) (hF f):=by omega
          have AL:Hid (lOff f (lO f) (hF f)=m):=al;clear LEF al up7;rw [t1];go_wp2_with fail;refine (jneed_ok _).mono ?_;rintro e w8 ⟨rfl,hw⟩;subst hw;go_wp2_with fail;refine OFH.out.mono ?_;rintro e w9 ⟨⟨E,hE,hX⟩,g9⟩;have X9:Hid (GB w br be (.pointer none) w9):=X7.out.mono g9;have G9:Hid (Gw w8 w9):=g9;have OE:Hid (OfE eps (kF f) (vF f) (gF f) n (LF f) E):=hE;clear g9 hE OFH;have rc:=X9.out.rx.cell;have rf:=X9.out.rx.fz;have rl:=X9.out.rx.lt;rcases hX with ⟨e0,rfl⟩ | ⟨e0,pp,SS,rfl,hS,hR⟩
          · have t3:(E == 0)=false:=by simpa using e0
            have GX:Hid (GB w br be (.pointer none) (w9.setCell ⟨br,0,none⟩ (.pointer none))):=⟨X9.out.gw.setCell (by show w.heap.size<=br;exact BB.out.1) _,X9.out.rx.set _,X9.out.ex.other _ _ (fun e=>ne e.symm)⟩
            have NF:Hid (¬ Fit f m):=fun t=>e0 (by
              have:=t.2
              rw [HE.out,HN.out] at this;exact OE.out.one this)
            clear e0;go_wp2_with fail;refine (jneed_bad _).mono ?_;rintro e wa ⟨rfl,hw⟩;subst hw;go_wp2_with fail;refine leaves_cons (f:=118) (args:=#[.pointer (some ⟨br,0,none⟩),.pointer (some ⟨be,0,none⟩)]) (by simp) (by simp [go_sem]) ?_
            refine (caught12 br be _ _ 120 ne _ GX.out.rx.cell GX.out.rx.fz GX.out.ex.cell GX.out.ex.fz).mono ?_;rintro e u' wz ⟨rfl,rfl,rfl⟩;have cz:=(Box.other (GX.out.rx.set (.pointer none)) ⟨be,0,none⟩ (.int .i64 120) ne).cell;have dz:=(Box.set (Box.other GX.out.ex ⟨br,0,none⟩ (.pointer none) (fun e=>ne e.symm)) (.int .i64 120)).cell
            exact ⟨.tuple #[.pointer none,.int .i64 120],by simp [results,results71,go_sem,cz,dz],.inr ⟨NF.out,rfl⟩,(GX.out.gw.setCell (by show w.heap.size<=br;exact BB.out.1) _).setCell (by show w.heap.size<=be;exact BB.out.2) _⟩
          · subst e0
            have FT:Fit f m:=⟨⟨Q3.out,Q4.out,Q5.out.1,Q5.out.2,LVO.out.1,LVO.out.2,AL.out⟩,by rw [HE.out,HN.out];exact OE.out⟩
            have sB:∀ q,SS q->w.heap.size<=q:=fun q hq=>by have:=hS q hq;have:=X7.out.gw.size;omega
            have nb:∀ q,SS q->q≠br/\q≠be:=fun q hq=>by
              have:=hS q hq
              have a:=X7.out.rx.lt;have b:=X7.out.ex.lt;omega
            have RES:Hid (GetOut HR w (((w9.setCell ⟨br,0,none⟩ (.pointer (some ⟨pp,0,none⟩))).setCell ⟨br,0,none⟩ (.pointer (some ⟨pp,0,none⟩))).setCell ⟨be,0,none⟩ (.int .i64 0)) (.returned (.tuple #[.pointer (some ⟨pp,0,none⟩),.int .i64 0])) f m):=by
              have hR2:HR (((w9.setCell ⟨br,0,none⟩ (.pointer (some ⟨pp,0,none⟩))).setCell ⟨br,0,none⟩ (.pointer (some ⟨pp,0,none⟩))).setCell ⟨be,0,none⟩ (.int .i64 0)) pp SS eps (kF f) (vF f) (gF f) n (LF f):=HH.out.keep hR fun q hq=>by
                rw [Go.Deep.blk_setCell_other _ _ _ _ (nb q hq).2,Go.Deep.blk_setCell_other _ _ _ _ (nb q hq).1,Go.Deep.blk_setCell_other _ _ _ _ (nb q hq).1]
              refine .inl ⟨FT,pp,SS,rfl,sB,?_,?_⟩
              · rw [HE.out,HN.out];exact hR2
              · rw [HE.out]
                have h2:=HH.out.ready hR2;rw [<-HN.out] at h2;exact ⟨h2,by rw [HN.out];exact OE.out,E7.out.bd,OKL.out⟩
            have GF:Hid (Gw w (((w9.setCell ⟨br,0,none⟩ (.pointer (some ⟨pp,0,none⟩))).setCell ⟨br,0,none⟩ (.pointer (some ⟨pp,0,none⟩))).setCell ⟨be,0,none⟩ (.int .i64 0))):=((X9.out.gw.setCell (by show w.heap.size<=br;exact BB.out.1) _).setCell (by show w.heap.size<=br;exact BB.out.1) _).setCell (by show w.heap.size<=be;exact BB.out.2) _
            have ec:=X9.out.ex.cell;have ef:=X9.out.ex.fz;have el:=X9.out.ex.lt;have ne':¬ be=br:=fun e=>ne e.symm
            have c5:=(Box.other ((X9.out.rx.set (.pointer (some ⟨pp,0,none⟩))).set (.pointer (some ⟨pp,0,none⟩))) ⟨be,0,none⟩ (.int .i64 0) ne).cell;have d5:=(Box.set (Box.other (Box.other X9.out.ex ⟨br,0,none⟩ (.pointer (some ⟨pp,0,none⟩)) ne') ⟨br,0,none⟩ (.pointer (some ⟨pp,0,none⟩)) ne') (.int .i64 0)).cell;clear hR hS FT sB nb;go_wp2_with fail;refine (jneed_ok _).mono ?_;rintro e wa ⟨rfl,hw⟩;subst hw;go_wp2_with fail;refine leaves_cons (f:=118) (args:=#[.pointer (some ⟨br,0,none⟩),.pointer (some ⟨be,0,none⟩)]) (by simp) (by simp [go_sem]) ?_
            refine (idle12 br be _).mono ?_;rintro e u' wz ⟨rfl,rfl,rfl⟩;exact ⟨.tuple #[.pointer (some ⟨pp,0,none⟩),.int .i64 0],by simp [results,results71,go_sem,c5,d5],RES.out,GF.out⟩
        · have t0:(((m-lOff f (lO f) (hF f):Nat):Int) == 0)=false:=by simp;omega
          have t1:¬ m-lOff f (lO f) (hF f)=0:=by omega
          have t2:¬ m<=lOff f (lO f) (hF f):=by omega
          have NF:Hid (¬ Fit f m):=fun t=>al t.1.all
          have GX:Hid (GB w br be (.pointer none) w8):=X7.out;generalize m-lOff f (lO f) (hF f)=mm at *;clear LEF al up7 t2 OFH;go_wp2_with fail;refine (jneed_bad _).mono ?_;rintro e wa ⟨rfl,hw⟩;subst hw;go_wp2_with fail;refine leaves_cons (f:=118) (args:=#[.pointer (some ⟨br,0,none⟩),.pointer (some ⟨be,0,none⟩)]) (by simp) (by simp [go_sem]) ?_
          refine (caught12 br be _ _ 120 ne _ GX.out.rx.cell GX.out.rx.fz GX.out.ex.cell GX.out.ex.fz).mono ?_;rintro e u' wz ⟨rfl,rfl,rfl⟩;have cz:=(Box.other (GX.out.rx.set (.pointer none)) ⟨be,0,none⟩ (.int .i64 120) ne).cell;have dz:=(Box.set (Box.other GX.out.ex ⟨br,0,none⟩ (.pointer none) (fun e=>ne e.symm)) (.int .i64 120)).cell
          exact ⟨.tuple #[.pointer none,.int .i64 120],by simp [results,results71,go_sem,cz,dz],.inr ⟨NF.out,rfl⟩,(GX.out.gw.setCell (by show w.heap.size<=br;exact BB.out.1) _).setCell (by show w.heap.size<=be;exact BB.out.2) _⟩
  · have LV:Hid (∀ W b,Gw w5 W->b≠p->KS W (some ⟨b,0,none⟩) n (kF f)->Calls prog 123 #[.agg #[.pointer (some ⟨p,0,none⟩)],.slice (some ⟨b,0,none⟩) n n] W fun e w'=>e=.panicked (thrown 120)/\Upd p W w'):=fun W b g hb ks=>(LVC.out W b g hb ks).mono fun e w' hq=>by
      rcases hq with ⟨a,_⟩ | ⟨_,a1,a2⟩
      · exact absurd a lvo
      · exact ⟨a1,a2⟩
    have NF:Hid (¬ Fit f m):=fun t=>lvo ⟨t.1.hh,t.1.lv⟩
    clear lvo LVC;refine wp_region_any (by kernel_rfl) ?_
    change wpAny _ _ _ _ _ _ _ (World.drew _)
    refine wpAny_ready (rs:=[0,1]) (by kernel_rfl) (by simp) ?_
    refine AllReady.cons rfl (fun K hK=>?_) (AllReady.cons rfl (fun K hK=>?_) AllReady.nil)
    · go_simp
      refine hK _ _ ?_;clear hK K;refine wpAny_ready (rs:=[1]) (by kernel_rfl) (by simp) ?_
      refine AllReady.cons rfl (fun K hK=>?_) AllReady.nil
      go_simp
      refine hK _ _ ?_;clear hK K;refine wpAny_ready (rs:=[2]) (by kernel_rfl) (by simp) ?_
      refine AllReady.cons rfl (fun K hK=>?_) AllReady.nil
      go_simp
      refine (KO.out _ (Gw.drew (Gw.refl w5))).mono ?_;rintro e w6 ⟨⟨kb,rfl,hkb,ks6⟩,g6⟩;have G6:Hid (Gw w5 w6):=(Gw.drew (Gw.refl w5)).trans g6;have K6:Hid (KS w6 (some ⟨kb,0,none⟩) n (kF f)/\kb≠p):=⟨ks6,by have h9:w5.heap.size<=kb:=hkb;omega⟩
      have x6:=(G6.out.cell bi 0 l5).trans x5;have l6:bi<w6.heap.size:=Nat.lt_of_lt_of_le l5 G6.out.size;clear ks6 g6 hkb;refine hK _ _ ?_;clear hK K;refine wpAny_ready (rs:=[3]) (by kernel_rfl) (by simp) ?_
      refine AllReady.cons rfl (fun K hK=>?_) AllReady.nil
      go_simp
      refine (LV.out _ _ G6.out K6.out.2 K6.out.1).mono ?_;rintro e w7 ⟨rfl,u7⟩;have GX:Hid (GB w br be (.pointer none) w7):=(X5.out.mono G6.out).upd u7 np3 np1 np2;clear u7;go_wp2_with fail;refine leaves_cons (f:=118) (args:=#[.pointer (some ⟨br,0,none⟩),.pointer (some ⟨be,0,none⟩)]) (by simp) (by simp [go_sem]) ?_
      refine (caught12 br be _ _ 120 ne _ GX.out.rx.cell GX.out.rx.fz GX.out.ex.cell GX.out.ex.fz).mono ?_;rintro e u' wz ⟨rfl,rfl,rfl⟩;have cz:=(Box.other (GX.out.rx.set (.pointer none)) ⟨be,0,none⟩ (.int .i64 120) ne).cell;have dz:=(Box.set (Box.other GX.out.ex ⟨br,0,none⟩ (.pointer none) (fun e=>ne e.symm)) (.int .i64 120)).cell
      exact ⟨.tuple #[.pointer none,.int .i64 120],by simp [results,results71,go_sem,cz,dz],.inr ⟨NF.out,rfl⟩,(GX.out.gw.setCell (by show w.heap.size<=br;exact BB.out.1) _).setCell (by show w.heap.size<=be;exact BB.out.2) _⟩
    · go_simp
      refine hK _ _ ?_;clear hK K;refine wpAny_ready (rs:=[0,2]) (by kernel_rfl) (by simp) ?_
      refine AllReady.cons rfl (fun K hK=>?_) (AllReady.cons rfl (fun K hK=>?_) AllReady.nil)
      · go_simp
        refine hK _ _ ?_;clear hK K;refine wpAny_ready (rs:=[2]) (by kernel_rfl) (by simp) ?_
        refine AllReady.cons rfl (fun K hK=>?_) AllReady.nil
        go_simp
        refine (KO.out _ (Gw.drew (Gw.refl w5))).mono ?_;rintro e w6 ⟨⟨kb,rfl,hkb,ks6⟩,g6⟩;have G6:Hid (Gw w5 w6):=(Gw.drew (Gw.refl w5)).trans g6;have K6:Hid (KS w6 (some ⟨kb,0,none⟩) n (kF f)/\kb≠p):=⟨ks6,by have h9:w5.heap.size<=kb:=hkb;omega⟩
        have x6:=(G6.out.cell bi 0 l5).trans x5;have l6:bi<w6.heap.size:=Nat.lt_of_lt_of_le l5 G6.out.size;clear ks6 g6 hkb;refine hK _ _ ?_;clear hK K;refine wpAny_ready (rs:=[3]) (by kernel_rfl) (by simp) ?_
        refine AllReady.cons rfl (fun K hK=>?_) AllReady.nil
        go_simp
        refine (LV.out _ _ G6.out K6.out.2 K6.out.1).mono ?_;rintro e w7 ⟨rfl,u7⟩;have GX:Hid (GB w br be (.pointer none) w7):=(X5.out.mono G6.out).upd u7 np3 np1 np2;clear u7;go_wp2_with fail;refine leaves_cons (f:=118) (args:=#[.pointer (some ⟨br,0,none⟩),.pointer (some ⟨be,0,none⟩)]) (by simp) (by simp [go_sem]) ?_
        refine (caught12 br be _ _ 120 ne _ GX.out.rx.cell GX.out.rx.fz GX.out.ex.cell GX.out.ex.fz).mono ?_;rintro e u' wz ⟨rfl,rfl,rfl⟩;have cz:=(Box.other (GX.out.rx.set (.pointer none)) ⟨be,0,none⟩ (.int .i64 120) ne).cell;have dz:=(Box.set (Box.other GX.out.ex ⟨br,0,none⟩ (.pointer none) (fun e=>ne e.symm)) (.int .i64 120)).cell
        exact ⟨.tuple #[.pointer none,.int .i64 120],by simp [results,results71,go_sem,cz,dz],.inr ⟨NF.out,rfl⟩,(GX.out.gw.setCell (by show w.heap.size<=br;exact BB.out.1) _).setCell (by show w.heap.size<=be;exact BB.out.2) _⟩
      · go_simp
        refine (KO.out _ (Gw.drew (Gw.refl w5))).mono ?_;rintro e w6 ⟨⟨kb,rfl,hkb,ks6⟩,g6⟩;have G6:Hid (Gw w5 w6):=(Gw.drew (Gw.refl w5)).trans g6;have K6:Hid (KS w6 (some ⟨kb,0,none⟩) n (kF f)/\kb≠p):=⟨ks6,by have h9:w5.heap.size<=kb:=hkb;omega⟩
        have x6:=(G6.out.cell bi 0 l5).trans x5;have l6:bi<w6.heap.size:=Nat.lt_of_lt_of_le l5 G6.out.size;clear ks6 g6 hkb;refine hK _ _ ?_;clear hK K;refine wpAny_ready (rs:=[0]) (by kernel_rfl) (by simp) ?_
        refine AllReady.cons rfl (fun K hK=>?_) AllReady.nil
        go_simp
        refine hK _ _ ?_;clear hK K;refine wpAny_ready (rs:=[3]) (by kernel_rfl) (by simp) ?_
        refine AllReady.cons rfl (fun K hK=>?_) AllReady.nil
        go_simp
        refine (LV.out _ _ G6.out K6.out.2 K6.out.1).mono ?_;rintro e w7 ⟨rfl,u7⟩;have GX:Hid (GB w br be (.pointer none) w7):=(X5.out.mono G6.out).upd u7 np3 np1 np2;clear u7;go_wp2_with fail;refine leaves_cons (f:=118) (args:=#[.pointer (some ⟨br,0,none⟩),.pointer (some ⟨be,0,none⟩)]) (by simp) (by simp [go_sem]) ?_
        refine (caught12 br be _ _ 120 ne _ GX.out.rx.cell GX.out.rx.fz GX.out.ex.cell GX.out.ex.fz).mono ?_;rintro e u' wz ⟨rfl,rfl,rfl⟩;have cz:=(Box.other (GX.out.rx.set (.pointer none)) ⟨be,0,none⟩ (.int .i64 120) ne).cell;have dz:=(Box.set (Box.other GX.out.ex ⟨br,0,none⟩ (.pointer none) (fun e=>ne e.symm)) (.int .i64 120)).cell
        exact ⟨.tuple #[.pointer none,.int .i64 120],by simp [results,results71,go_sem,cz,dz],.inr ⟨NF.out,rfl⟩,(GX.out.gw.setCell (by show w.heap.size<=br;exact BB.out.1) _).setCell (by show w.heap.size<=be;exact BB.out.2) _⟩
def lf (l:List Int) (i:Nat):Int:=l.getD i 0
theorem lies_lf {f:Nat->Int} {l:List Int} (h:Lies f 0 l):∀ i,i<l.length->f i=lf l i:=fun i hi=>by
  have:=h i hi
  rw [Nat.zero_add] at this;unfold lf;rw [List.getD_eq_getElem?_getD,this];rfl
theorem bl_bs {w:World} {base:Nat} {bo:Option Addr} {c:Nat} {l:List Int} (h:BL w base (.slice bo l.length c) l) (bd:∀ y∈l,0<=y/\y<256):BS w bo l.length (lf l):=by
  refine ⟨fun h0=>?_,fun i hi=>?_⟩
  · rcases h.2 with ⟨e,z⟩ | ⟨g,cap,cur,e,hb,hh,r⟩
    · omega
    · have e':=e
      injection e' with e1 e2 e3;subst e1;refine ⟨g,0,rfl,(Array.getElem?_eq_some_iff.1 hh).1,fun i hi=>?_⟩
      rw [Nat.zero_add,World.ownsRow.cellAt h i (by omega)]
      unfold i8 lf;rw [List.getElem?_map,List.getD_eq_getElem?_getD,List.getElem?_eq_getElem hi];rfl
  · unfold lf
    rw [List.getD_eq_getElem?_getD,List.getElem?_eq_getElem hi];exact bd _ (List.getElem_mem hi)
theorem segE_congr {eps:Int} {f f':Nat->Int} {n:Nat} (e0:0<=eps) (e:∀ i,i<n->f i=f' i) {s:Sg} (te:s.te<=n) (h:segE eps f s=0):segE eps f' s=0:=by
  obtain ⟨a,b,c⟩:=segE_ok.1 h;have A:=errM_ok.1 a;refine segE_ok.2 ⟨a,by rw [b,e _ (by omega)],worst_le e0 _ fun i hi=>?_⟩
  have W:=(worst_in (away s.k s.sl s.ic s.fr s.te (sh f s.fr.toNat)) (s.te-s.fr).toNat).2 i hi;have q:away s.k s.sl s.ic s.fr s.te (sh f' s.fr.toNat) i=away s.k s.sl s.ic s.fr s.te (sh f s.fr.toNat) i:=by
    unfold away sh;rw [e (s.fr.toNat+i) (by omega)]
  rw [q];omega
theorem lvlE_congr {eps:Int} {f f':Nat->Int} {n:Nat} (e0:0<=eps) (e:∀ i,i<n->f i=f' i) {l:List Sg} (tl:tileB n 0 l=true) (h:lvlE eps f l=0):lvlE eps f' l=0:=by
  refine lvlE_ok.2 fun s hs=>?_
  obtain ⟨t,ht,e'⟩:=mem_getD (d:=sg0) hs;have T:=tile_at tl t ht;rw [e'] at T;exact segE_congr e0 e T.2.2.1 (lvlE_ok.1 h s hs)
theorem chkE_congr {eps:Int} {f f':Nat->Int} {n:Nat} (e0:0<=eps) (e:∀ i,i<n->f i=f' i) {L:List (List Sg)} (h:chkE eps f n L=0):chkE eps f' n L=0:=by
  cases L with
  | nil=>rfl
  | cons l r =>
    unfold chkE at h ⊢;by_cases t:(tileB n 0 l&&!l.isEmpty)=false
    · rw [if_pos t] at h;omega
    · rw [if_neg t] at h ⊢
      have t':tileB n 0 l=true:=by
        have:(tileB n 0 l&&!l.isEmpty)=true:=by simpa using t
        rw [Bool.and_eq_true] at this;exact this.1
      by_cases z:lvlE eps f l=0
      · rw [if_neg (fun q=>q z)] at h
        rw [if_neg (fun q=>q (lvlE_congr e0 e t' z))]
        exact h
      · rw [if_pos z] at h
        exact absurd h z
theorem up_congr {f f':Nat->Int} {n:Nat} (e:∀ i,i<n->f i=f' i) (h:Up f n):Up f' n:=fun j hj=>by
  rw [<-e j (by omega),<-e (j+1) hj]
  exact h j hj
theorem OfE.congr0 {eps:Int} {k v k' v':Nat->Int} {g g':Nat->Bool} {n:Nat} {L:List (List Sg)} (h:OfE eps k v g n L 0) (e:∀ i,i<n->k i=k' i/\v i=v' i/\g i=g' i):OfE eps k' v' g' n L 0:=by
  obtain ⟨a,b⟩:=h.new0;have up:=a.up;have gn:=a.gone;refine ⟨0,.inr ⟨up.1,.inl ⟨rfl,up_congr (fun i hi=>(e i hi).1) up.2,fun j hj=>?_⟩⟩,.inr ⟨rfl,?_⟩⟩
  · rw [<-(e j hj).2.1,<-(e j hj).2.2]
    exact gn j hj
  · rcases b with ⟨_,q⟩ | ⟨_,_,q⟩ | ⟨_,_,_,q⟩ | ⟨x1,x2,x3,q⟩
    · cases q
    · cases q
    · cases q
    · exact .inr (.inr (.inr ⟨x1,up_congr (fun i hi=>(e i hi).1) x2,x3,(chkE_congr (by omega) (fun i hi=>(e i hi).1) q.symm).symm⟩))
end Go.Proofs.YtpoohadckhphpaaGreat
namespace Go.Proofs.YtpoohadckhphpaaGreat
open Go.RowKit
attribute [local go_sem] run_store_float
theorem OwnV.moreU {W w w':World} {o:Obj} {B:Nat} {v v' vl:Value} {L:List (List Sg)} {lv:List Sg} {vals:List Value} (h0:OwnV W B v L vals) (h:OwnV w B v L vals) (gs:W.heap.size<=w.heap.size) (hs:SR w W.heap.size vl lv) (hB:B<=W.heap.size) (r1:w'.ownsRow B 105 1 v' (L.length+1) (vals++[vl])) (r2:(w.alloc o).grownBy w' v.ownBlock) (r4:v'.ownBlock=v.ownBlock\/v'.ownBlock=some (w.heap.size+1)):OwnV w' B v' (L++[lv]) (vals++[vl]):=by
  have vn:=h0.len;have keep:∀ q,q<w.heap.size->v.ownBlock≠some q->w'.heap[q]?=w.heap[q]?:=fun q hq hn=>(r2.block q (by simp;omega) (fun e=>hn e.symm)).trans (heap_alloc_old w o hq)
  have oldq:∀ i,i<L.length->∀ q,(vals.getD i nilS).ownBlock=some q->q<W.heap.size:=fun i hi q hq=>(sr_lt (h0.rows i hi) q hq).2
  have vq:∀ q,v.ownBlock=some q->q<W.heap.size:=fun q hq=>(h0.outer.lt q hq).2
  have lvq:∀ q,vl.ownBlock=some q->W.heap.size<=q/\q<w.heap.size:=fun q hq=>sr_lt hs q hq
  have gl:∀ i,i<L.length->(vals++[vl]).getD i nilS=vals.getD i nilS/\(L++[lv]).getD i []=L.getD i []:=fun i hi=>by
    constructor
    · simp [List.getD,List.getElem?_append_left (show i<vals.length by omega)]
    · simp [List.getD,List.getElem?_append_left hi]
  have gr:(vals++[vl]).getD L.length nilS=vl/\(L++[lv]).getD L.length []=lv:=by
    constructor
    · rw [<-vn];simp [List.getD]
    · simp [List.getD]
  refine ⟨by rw [List.length_append];exact r1,fun i hi=>?_,fun i hi q hq=>?_⟩
  · by_cases e:i<L.length
    · rw [(gl i e).1,(gl i e).2]
      exact sr_keep (h.rows i e) fun q hq=>keep q (Nat.lt_of_lt_of_le (oldq i e q hq) gs) (fun hv=>(h0.apart i e q hq).1 hv)
    · have ei:i=L.length:=by rw [List.length_append] at hi;simp at hi;omega
      subst ei;rw [gr.1,gr.2];have:=sr_keep hs fun q hq=>keep q (lvq q hq).2 (fun hv=>by have:=vq q hv;have:=lvq q hq;omega)
      refine ⟨this.1,?_⟩;rcases this.2 with q | ⟨b,cap,cur,e1,e2,e3⟩
      · exact .inl q
      · exact .inr ⟨b,cap,cur,e1,Nat.le_trans hB e2,e3⟩
  · by_cases e:i<L.length
    · rw [(gl i e).1] at hq
      have q1:=oldq i e q hq;have ap:=h0.apart i e q hq;refine ⟨fun hv=>?_,fun j hj hjq=>?_⟩
      · rcases r4 with r | r
        · exact ap.1 (by rw [<-r];exact hv)
        · rw [r] at hv;have:w.heap.size+1=q:=by simpa using hv
          have:=gs;omega
      · by_cases e2:j<L.length
        · rw [(gl j e2).1] at hjq;exact ap.2 j e2 hjq
        · have ej:j=L.length:=by rw [List.length_append] at hj;simp at hj;omega
          subst ej;rw [gr.1] at hjq;have:=lvq q hjq;omega
    · have ei:i=L.length:=by rw [List.length_append] at hi;simp at hi;omega
      subst ei;rw [gr.1] at hq;have q1:=lvq q hq;refine ⟨fun hv=>?_,fun j hj hjq=>?_⟩
      · rcases r4 with r | r
        · rw [r] at hv;have:=vq q hv;omega
        · rw [r] at hv;have:w.heap.size+1=q:=by simpa using hv
          omega
      · by_cases e2:j<L.length
        · rw [(gl j e2).1] at hjq;have:=oldq j e2 q hjq;omega
        · rw [List.length_append] at hj;simp at hj;omega
def DRd (w:World) (p:Nat) (S:Nat->Prop) (f:Nat->Int) (m o:Nat):Prop:=RRd 66 w p S (fun i=>f (o+i)) (m-o)
def DStep (w w':World) (p:Nat) (S:Nat->Prop) (f:Nat->Int) (m o:Nat):Prop:=Upd p w w'/\∃ S',DRd w' p S' f m o/\∀ q,S' q->S q
theorem Rds.dstep {w w':World} {p:Nat} {S:Nat->Prop} {f:Nat->Int} {m o k:Nat} (h:Rds 66 p S (fun i=>f (o+i)) (m-o) k w w'):DStep w w' p S f m (o+k):=by
  obtain ⟨u,S',r,s⟩:=h;refine ⟨u,S',?_,s⟩;unfold DRd;rw [show m-(o+k)=m-o-k by omega,show (fun i=>f (o+k+i))=fun i=>f (o+(k+i)) from funext fun i=>by rw [Nat.add_assoc]]
  exact r
theorem DStep.after {w w1 w2:World} {p:Nat} {S S1:Nat->Prop} {f:Nat->Int} {m o:Nat} (u:Upd p w w1) (s:∀ q,S1 q->S q) (h:DStep w1 w2 p S1 f m o):DStep w w2 p S f m o:=by
  obtain ⟨a,S',b,c⟩:=h;exact ⟨u.trans a,S',b,fun q hq=>s q (c q hq)⟩
theorem DRd.gw {w w':World} {p:Nat} {S:Nat->Prop} {f:Nat->Int} {m o:Nat} (h:DRd w p S f m o) (g:Gw w w'):DRd w' p S f m o:=RRd.gw h g
theorem DStep.gw {w w' w2:World} {p:Nat} {S:Nat->Prop} {f:Nat->Int} {m o:Nat} (h:DStep w w' p S f m o) (g:Gw w' w2):DStep w w2 p S f m o:=by
  obtain ⟨u,S',r,s⟩:=h;exact ⟨u.trans (.of_gw g),S',r.gw g,s⟩
theorem DStep.setN {w w':World} {p:Nat} {S:Nat->Prop} {f:Nat->Int} {m o b:Nat} (h:DStep w w' p S f m o) (hb:w.heap.size<=b) (nb:∀ q,S q->q<w.heap.size) (i:Nat) (v:Value):DStep w (w'.setCell ⟨b,i,none⟩ v) p S f m o:=by
  obtain ⟨u,S',r,s⟩:=h;refine ⟨u.setN hb i v,S',RRd.blks r (by simp) fun q hq=>?_,s⟩
  have:=nb q (s q hq)
  exact Go.Deep.blk_setCell_other _ _ _ _ (by show q≠b;omega)
theorem Upd.grown {p:Nat} {w w' w2:World} {row:Option Nat} (h:Upd p w w') (g:w'.grownBy w2 row) (hr:∀ k,row=some k->w.heap.size<=k):Upd p w w2 :=
  ⟨Nat.le_trans h.size g.size,fun q hq hl=>(g.block q (Nat.lt_of_lt_of_le hl h.size) (fun e=>by have:=hr q e.symm;omega)).trans (h.blk q hq hl),fun w0 h0 gg=>(h.gw w0 h0 gg).grown g (fun k hk=>Nat.le_trans gg.size (hr k hk))⟩
theorem DStep.grown {w w' w2:World} {p:Nat} {S:Nat->Prop} {f:Nat->Int} {m o:Nat} {row:Option Nat} (h:DStep w w' p S f m o) (g:w'.grownBy w2 row) (hr:∀ k,row=some k->w.heap.size<=k) (nb:∀ q,S q->q<w.heap.size):DStep w w2 p S f m o:=by
  obtain ⟨u,S',r,s⟩:=h;refine ⟨u.grown g hr,S',RRd.blks r g.size fun q hq=>?_,s⟩
  have:=nb q (s q hq)
  exact g.block q (RRd.lt r q hq) (fun e=>by have:=hr q e.symm;omega)
section
variable {w:World} {p:Nat} {S:Nat->Prop} {f:Nat->Int} {m o:Nat}
theorem dnum (hm:m<=140737488355000) (om:o<=m) (h:DRd w p S f m o) :
    Calls prog 48 #[.pointer (some ⟨p,0,none⟩)] w fun e w'=>(o+8<=m/\e=.returned (.tuple #[.int .u64 (numR f o 8),.int .i64 0])/\DStep w w' p S f m (o+8))\/(¬ o+8<=m/\∃ er,e=.returned (.tuple #[.int .u64 0,.int .i64 er])/\er≠0/\DStep w w' p S f m o):=(docr.number (by omega) h).mono fun e w' hh=>by
  unfold numA at hh;rw [num_sh] at hh;by_cases c:o+8<=m
  · rw [if_neg (by omega)] at hh
    exact .inl ⟨c,hh.1,hh.2.dstep⟩
  · rw [if_pos (by omega)] at hh
    exact .inr ⟨c,100,hh.1,by decide,hh.2.dstep⟩
theorem dcnt (most:Int) (q0:0<=most) (q1:most<9223372036854775808) (hm:m<=140737488355000) (om:o<=m) (h:DRd w p S f m o) :
    Calls prog 23 #[.pointer (some ⟨p,0,none⟩),.int .i64 most] w fun e w'=>((o+8<=m/\numR f o 8<=most)/\e=.returned (.tuple #[.int .i64 (numR f o 8),.int .i64 0])/\DStep w w' p S f m (o+8))\/(¬ (o+8<=m/\numR f o 8<=most)/\∃ er,e=.returned (.tuple #[.int .i64 0,.int .i64 er])/\er≠0/\DStep w w' p S f m o):=(docr.count most (by omega) q1 (by omega) h).mono fun e w' hh=>by
  unfold countA at hh;rw [num_sh] at hh;by_cases c:o+8<=m/\numR f o 8<=most
  · rw [if_neg (by omega),if_neg (by omega)] at hh
    exact .inl ⟨c,hh.1,hh.2.dstep⟩
  · by_cases c8:m-o<8
    · rw [if_pos c8] at hh
      exact .inr ⟨c,100,hh.1,by decide,hh.2.dstep⟩
    · rw [if_neg c8,if_pos (by omega)] at hh
      exact .inr ⟨c,101,hh.1,by decide,hh.2.dstep⟩
theorem dflt (hm:m<=140737488355000) (om:o<=m) (h:DRd w p S f m o) :
    Calls prog 50 #[.pointer (some ⟨p,0,none⟩)] w fun e w'=>((o+8<=m/\numR f o 8/4503599627370496%2048≠2047)/\e=.returned (.tuple #[.float .f64 (numR f o 8).toNat,.int .i64 0])/\DStep w w' p S f m (o+8))\/(¬ (o+8<=m/\numR f o 8/4503599627370496%2048≠2047)/\∃ er,e=.returned (.tuple #[.float .f64 0,.int .i64 er])/\er≠0/\DStep w w' p S f m o):=(docr.float (by omega) h).mono fun e w' hh=>by
  unfold floatA at hh;rw [num_sh] at hh;by_cases c:o+8<=m/\numR f o 8/4503599627370496%2048≠2047
  · rw [if_neg (by omega),if_neg (by omega)] at hh
    exact .inl ⟨c,hh.1,hh.2.dstep⟩
  · by_cases c8:m-o<8
    · rw [if_pos c8] at hh
      exact .inr ⟨c,100,hh.1,by decide,hh.2.dstep⟩
    · rw [if_neg c8,if_pos (by omega)] at hh
      exact .inr ⟨c,101,hh.1,by decide,hh.2.dstep⟩
theorem dflt_any (hm:m<=140737488355000) (om:o<=m) (h:DRd w p S f m o) :
    Calls prog 50 #[.pointer (some ⟨p,0,none⟩)] w fun e w'=>∃ x er o',e=.returned (.tuple #[.float .f64 x,.int .i64 er])/\DStep w w' p S f m o'/\o'<=m:=(dflt hm om h).mono fun e w' hh=>by
  rcases hh with ⟨a,b,c⟩ | ⟨a,er,b,_,c⟩
  · exact ⟨_,_,_,b,c,a.1⟩
  · exact ⟨_,_,_,b,c,om⟩
theorem dbyt (hm:m<=140737488355000) (om:o<=m) (h:DRd w p S f m o) :
    Calls prog 49 #[.pointer (some ⟨p,0,none⟩),.int .u8 1] w fun e w'=>((o+1<=m/\f o<=1)/\e=.returned (.tuple #[.int .u8 (f o),.int .i64 0])/\DStep w w' p S f m (o+1))\/(¬ (o+1<=m/\f o<=1)/\∃ er,e=.returned (.tuple #[.int .u8 0,.int .i64 er])/\er≠0/\DStep w w' p S f m o):=(docr.byte 1 (by decide) (by decide) (by omega) h).mono fun e w' hh=>by
  unfold byteA at hh;by_cases c:o+1<=m/\f o<=1
  · rw [if_neg (by omega),if_neg (by show ¬ 1<f (o+0);rw [Nat.add_zero];omega)] at hh
    exact .inl ⟨c,hh.1,hh.2.dstep⟩
  · by_cases c8:m-o=0
    · rw [if_pos c8] at hh
      exact .inr ⟨c,100,hh.1,by decide,hh.2.dstep⟩
    · rw [if_neg c8,if_pos (by show 1<f (o+0);rw [Nat.add_zero];omega)] at hh
      exact .inr ⟨c,101,hh.1,by decide,hh.2.dstep⟩
theorem dbyt_any (hm:m<=140737488355000) (om:o<=m) (h:DRd w p S f m o) :
    Calls prog 49 #[.pointer (some ⟨p,0,none⟩),.int .u8 1] w fun e w'=>∃ x er o',e=.returned (.tuple #[.int .u8 x,.int .i64 er])/\DStep w w' p S f m o'/\o'<=m:=(dbyt hm om h).mono fun e w' hh=>by
  rcases hh with ⟨a,b,c⟩ | ⟨a,er,b,_,c⟩
  · exact ⟨_,_,_,b,c,a.1⟩
  · exact ⟨_,_,_,b,c,om⟩
end
theorem ecs_succ (k v:Nat->Int) (g:Nat->Bool) (i:Nat):ecs k v g (i+1)=ecs k v g i++[.int .u64 (k i),.int .u64 (v i),.bool (g i)]:=by
  unfold ecs;rw [show (i+1)*3=i*3+1+1+1 by omega,List.range_succ,List.range_succ,List.range_succ]
  simp only [List.map_append,List.map_cons,List.map_nil,List.append_assoc,List.cons_append,List.nil_append];rw [ecell_0,ecell_1,ecell_2]
theorem new_ent12 (w:World) (x y:Int) (z:Bool):∀ j u,([.int .u64 x,.int .u64 y,.bool z]:List Value)[j]?=some u->(w.alloc (.cells #[.int .u64 x,.int .u64 y,.bool z] 81)).cell? ((⟨w.heap.size,0,none⟩:Addr).add j)=some u:=by
  intro j u hu;have hb:=heap_alloc_new w (.cells #[.int .u64 x,.int .u64 y,.bool z] 81);rw [Addr.add_lit,Nat.zero_add]
  match j,hu with
  | 0,hu=>cases hu;exact (ent_cells hb).1
  | 1,hu=>cases hu;exact (ent_cells hb).2.1
  | 2,hu=>cases hu;exact (ent_cells hb).2.2
theorem er_upd {w w':World} {base p:Nat} {x:Value} {k v:Nat->Int} {g:Nat->Bool} {n:Nat} (h:ER w base x k v g n) (u:Upd p w w') (hp:p<base):ER w' base x k v g n:=own_kept h fun q hq=>u.blk q (by have:=(World.ownsRow.lt h q hq).1;omega) (World.ownsRow.lt h q hq).2
theorem dread {w:World} {p:Nat} {S:Nat->Prop} {f:Nat->Int} {m:Nat} (hm:m<=1000000000) (om:12<=m) (bd:∀ i,i<m->0<=f i/\f i<256) (h:DRd w p S f m 12) :
    Calls prog 24 #[.pointer (some ⟨p,0,none⟩)] w fun e w'=>(EntOK f m/\∃ bo c,e=.returned (.tuple #[.slice bo (nF f) c,.bool true])/\ER w' w.heap.size (.slice bo (nF f) c) (kF f) (vF f) (gF f) (nF f)/\DStep w w' p S f m (eOff f (nF f)))\/(¬ EntOK f m/\e=.returned (.tuple #[.slice none 0 0,.bool false])/\Upd p w w'):=by
  have pl:p<w.heap.size:=RRd.lt h p (RRd.own h);have FZz:Hid (∀ q,S q->q<w.heap.size):=fun q hq=>RRd.lt h q hq
  have BDH:Hid (∀ i,i<m->0<=f i/\f i<256):=bd;have C1:Hid _:=dcnt 4294967296 (by decide) (by decide) (by omega) om h
  obtain ⟨ii,hii,iz,is,iby⟩:=info_parts info_e;clear h bd;go_enter func24,ntmps24;go_wp2_with fail;refine Calls.mono C1.out ?_;rintro e w2 hh;clear C1;rcases hh with ⟨a1,rfl,R⟩ | ⟨a1,er,rfl,e0,R⟩
  · have A1:Hid (20<=m/\numR f 12 8<=4294967296):=a1
    have nc:numR f 12 8=(nF f:Int):=(cF_cast BDH.out (show 12+8<=m from a1.1)).symm;rw [nc] at a1 ⊢;obtain ⟨n,hn⟩:∃ n,nF f=n:=⟨_,rfl⟩;have HN:Hid (nF f=n):=hn;rw [hn] at a1 ⊢;have n1:n<=4294967296:=by omega
    have ST0:Hid (DStep w w2 p S f m (eOff f 0)):=R;have ER0:Hid (ER w2 w.heap.size (.slice none 0 0) (kF f) (vF f) (gF f) 0):=World.ownsRow_nil _ _ _ _;clear R nc hn a1;go_wp2_with fail;go_loopg [6,7] n (fun gg s6 s7 wr=>∃ (i:Nat) (lo:Option Addr) (lc:Nat),s6=.slice lo i lc/\s7=.int .i64 i/\i<=n/\n-i<=gg/\Hid (ER wr w.heap.size (.slice lo i lc) (kF f) (vF f) (gF f) i)/\Hid (DStep w wr p S f m (eOff f i))/\Hid (eOff f i<=m)/\Hid (∀ t,t<i->eOff f t+9<=m/\f (eOff f t+8)<=1/\eOff f (t+1)<=m))
    case atStart=>exact ⟨0,none,0,rfl,rfl,Nat.zero_le _,by omega,ER0,ST0,(show Hid _ from A1.out.1),(show Hid _ from fun t ht=>by omega)⟩
    case round =>
      clear ER0 ST0;obtain ⟨i,lo,lc,rfl,rfl,h1,h2,RI,SI,OI,EI⟩:=hrel;by_cases hlt:i<n
      · obtain ⟨u,Si,ri,subi⟩:=SI.out
        have UI:Hid (Upd p w wr):=u;have SB:Hid (∀ q,Si q->S q):=subi;have C2:Hid _:=dnum (show m<=140737488355000 by omega) OI.out ri
        have bnd:Hid (20+9*i<=m):=Nat.le_trans (eOff_ge f i) OI.out;have ib:=bnd.out;clear u ri subi;go_wp2_with fail;refine Calls.mono C2.out ?_;rintro e w3 hh;clear C2;rcases hh with ⟨b1,rfl,R3⟩ | ⟨b1,er,rfl,e0,R3⟩
        · obtain ⟨u3,S3,r3,sub3⟩:=R3
          have U3:Hid (Upd p wr w3):=u3;have SB3:Hid (∀ q,S3 q->S q):=fun q hq=>SB.out q (sub3 q hq)
          have C3:Hid _:=dbyt (show m<=140737488355000 by omega) b1 r3
          clear u3 r3 sub3;have kf:numR f (eOff f i) 8=kF f i:=rfl;rw [kf];go_wp2_with fail;refine Calls.mono C3.out ?_;rintro e w4 hh;clear C3;rcases hh with ⟨c1,rfl,R4⟩ | ⟨c1,er,rfl,e0,R4⟩
          · obtain ⟨u4,S4,r4,sub4⟩:=R4
            have U4:Hid (Upd p wr w4):=U3.out.trans u4;have SB4:Hid (∀ q,S4 q->S q):=fun q hq=>SB3.out q (sub4 q hq)
            have R4:Hid (DRd w4 p S4 f m (eOff f i+8+1)):=r4;have by0:=(BDH.out (eOff f i+8) (by omega)).1
            have EO:Hid (eOff f (i+1)=eOff f i+(if f (eOff f i+8)=1 then 9 else 17)/\gF f i=decide (f (eOff f i+8)=1)/\vF f i=if f (eOff f i+8)=1 then 0 else numR f (eOff f i+9) 8):=⟨rfl,rfl,rfl⟩
            have C9:Hid (eOff f i+9<=m/\f (eOff f i+8)<=1):=⟨by omega,c1.2⟩
            have p4:p<w4.heap.size:=by have:=U4.out.size;have:=UI.out.size;omega
            obtain ⟨y,hy⟩:∃ y,f (eOff f i+8)=y:=⟨_,rfl⟩;have HY:Hid (f (eOff f i+8)=y):=hy;rw [hy] at EO c1 by0 C9;rw [hy];have ESU:Hid (∀ (W:World) (x y':Int) (z:Bool) (v':Value) (w7:World),Upd p w W->DStep w W p S f m (eOff f (i+1))->ER W w.heap.size (.slice lo i lc) (kF f) (vF f) (gF f) i->x=kF f i->y'=vF f i->z=gF f i->w7.ownsRow w.heap.size 81 3 v' (i+1) (ecs (kF f) (vF f) (gF f) i++[.int .u64 x,.int .u64 y',.bool z])->(W.alloc (.cells #[.int .u64 x,.int .u64 y',.bool z] 81)).grownBy w7 (Value.slice lo i lc).ownBlock->ER w7 w.heap.size v' (kF f) (vF f) (gF f) (i+1)/\DStep w w7 p S f m (eOff f (i+1))):=fun W x y' z v' w7 hu hs he e1 e2 e3 r1 r2=>by
              refine ⟨?_,?_⟩
              · show World.ownsRow _ _ _ _ _ _ _
                rw [ecs_succ,<-e1,<-e2,<-e3];exact r1
              · exact (hs.gw ((Gw.refl W).alloc _ _)).grown r2 (fun k hk=>(World.ownsRow.lt he k hk).1) FZz.out
            clear u4 r4 sub4 hy kf;by_cases y1:y=1
            · subst y1
              rw [if_pos rfl,if_pos rfl] at EO;obtain ⟨eo1,eo2,eo3⟩:=EO.out;have g1:gF f i=true:=by rw [eo2];rfl
              have DS4:Hid (DStep w w4 p S f m (eOff f (i+1))):=by
                show DStep _ _ _ _ _ _ _;rw [eo1];exact ⟨UI.out.trans U4.out,S4,R4.out,SB4.out⟩
              have ER4:Hid (ER w4 w.heap.size (.slice lo i lc) (kF f) (vF f) (gF f) i):=er_upd RI.out U4.out pl;have ON:Hid (eOff f (i+1)<=m/\∀ t,t<i+1->eOff f t+9<=m/\f (eOff f t+8)<=1/\eOff f (t+1)<=m):=⟨by rw [eo1];omega,fun t ht=>by
                by_cases c:t=i
                · subst c;exact ⟨C9.out.1,by rw [HY.out];decide,by rw [eo1];omega⟩
                · exact EI.out t (by omega)⟩
              have KV:Hid (kF f i=kF f i/\vF f i=0/\gF f i=true):=⟨rfl,eo3,g1⟩;obtain ⟨ki,hki⟩:∃ ki,kF f i=ki:=⟨_,rfl⟩;have HKI:Hid (kF f i=ki):=hki;rw [hki];have SZ:Hid (w.heap.size<=w4.heap.size):=Nat.le_trans UI.out.size U4.out.size;clear EO eo1 eo2 eo3 g1 RI SI EI hki R4;go_wp2_with (at_builtin;refine wpList_append_own _ rfl _ _ 47 rfl w.heap.size 81 ii (.agg #[.int .u64 0,.int .u64 0,.bool false]) 3 24 underlying47 hii iz is iby rfl (by decide) _ i _ rfl (own_kept ER4.out fun q hq=>(((Gw.refl w4).alloc _ _).alloc _ _).below.block q (World.ownsRow.lt ER4.out q hq).2) ⟨w4.heap.size+1,0,none⟩ 1 1 [.int .u64 ki,.int .u64 0,.bool true] rfl rfl ?nw (by intro u hu;simp at hu;rcases hu with rfl | rfl | rfl<;>rfl) (by simp only [maxLen];omega) (by omega) (by have:=SZ.out;simp;omega) ?next)
              case nw =>
                have:=new_ent12 (w4.alloc (.cells #[.int .u64 ki,.int .u64 0,.bool true] 81)) ki 0 true
                rw [show (w4.alloc (.cells #[.int .u64 ki,.int .u64 0,.bool true] 81)).heap.size=w4.heap.size+1 by simp] at this
                exact this
              case next =>
                intro v7 w7 r1 r2 r3;obtain ⟨ao7,c7,rfl⟩:∃ ao c,v7=.slice ao (i+1) c:=by
                  rcases r1.2 with ⟨e,z⟩ | ⟨g,cap,cur,e,hb,hh,hc,_⟩
                  · exact ⟨none,0,by rw [e];congr 1;omega⟩
                  · exact ⟨some ⟨g,0,none⟩,cap,e⟩
                have FIN:=ESU.out (w4.alloc (.cells #[.int .u64 ki,.int .u64 0,.bool true] 81)) ki 0 true _ w7 ((UI.out.trans U4.out).allocN _ _) (DS4.out.gw ((Gw.refl w4).alloc _ _)) (own_kept ER4.out fun q hq=>((Gw.refl w4).alloc _ _).below.block q (World.ownsRow.lt ER4.out q hq).2) HKI.out.symm KV.out.2.1.symm KV.out.2.2.symm r1 r2
                have F1:Hid (ER w7 w.heap.size (.slice ao7 (i+1) c7) (kF f) (vF f) (gF f) (i+1)):=FIN.1;have F2:Hid (DStep w w7 p S f m (eOff f (i+1))):=FIN.2;clear FIN r1 r2 r3 ESU;go_wp2_with fail;go_roundg (n-(i+1))
                case measure=>omega
                case rel=>exact ⟨i+1,ao7,c7,rfl,by go_num,by omega,Nat.le_refl _,F1,F2,(show Hid _ from ON.out.1),(show Hid _ from ON.out.2)⟩
            · have y2:y=0:=by have:=C9.out.2;omega
              subst y2;rw [if_neg (by decide),if_neg (by decide)] at EO
              obtain ⟨eo1,eo2,eo3⟩:=EO.out;have g1:gF f i=false:=by rw [eo2];rfl
              obtain ⟨ki,hki⟩:∃ ki,kF f i=ki:=⟨_,rfl⟩;have HKI:Hid (kF f i=ki):=hki;rw [hki];have SZ:Hid (w.heap.size<=w4.heap.size):=Nat.le_trans UI.out.size U4.out.size;have C4:Hid _:=dnum (show m<=140737488355000 by omega) (show eOff f i+8+1<=m by omega) (R4.out.gw ((Gw.refl w4).alloc #[.int .u64 ki,.int .u64 0,.bool false] 81))
              have BX:(w4.alloc (.cells #[.int .u64 ki,.int .u64 0,.bool false] 81)).heap[w4.heap.size]?=some (.cells #[.int .u64 ki,.int .u64 0,.bool false] 81 (0,0)):=heap_alloc_new w4 _;have BXH:Hid (∀ w6,Upd p (w4.alloc (.cells #[.int .u64 ki,.int .u64 0,.bool false] 81)) w6->w6.heap[w4.heap.size]?=some (.cells #[.int .u64 ki,.int .u64 0,.bool false] 81 (0,0))):=fun w6 u=>(u.blk _ (by omega) (by simp)).trans BX
              have KV:Hid (vF f i=numR f (eOff f i+9) 8/\gF f i=false/\eOff f (i+1)=eOff f i+17):=⟨eo3,g1,eo1⟩;clear EO eo1 eo2 eo3 g1 SI hki R4 BX;go_wp2_with fail;refine Calls.mono C4.out ?_;rintro e w6 hh;clear C4;rcases hh with ⟨d1,rfl,R6⟩ | ⟨d1,er,rfl,e0,R6⟩
              · have B6:=BXH.out w6 R6.1
                obtain ⟨z0,z1,z2⟩:=ent_cells B6;obtain ⟨f0,f1,f2⟩:=ent_fz B6;have l6:w4.heap.size<w6.heap.size:=(Array.getElem?_eq_some_iff.1 B6).1;have vv:numR f (eOff f i+8+1) 8=vF f i:=KV.out.1.symm;rw [vv];have DS6:DStep w w6 p S f m (eOff f (i+1)):=by
                  rw [KV.out.2.2];exact DStep.after ((UI.out.trans U4.out).allocN _ _) SB4.out R6
                have ER6:ER w6 w.heap.size (.slice lo i lc) (kF f) (vF f) (gF f) i:=er_upd (own_kept (er_upd RI.out U4.out pl) fun q hq=>((Gw.refl w4).alloc _ _).below.block q (World.ownsRow.lt (er_upd RI.out U4.out pl) q hq).2) R6.1 pl
                obtain ⟨vi,hvi⟩:∃ vi,vF f i=vi:=⟨_,rfl⟩;have HVI:Hid (vF f i=vi):=hvi;rw [hvi];obtain ⟨w8,hw8⟩:∃ w8,w8=w6.setCell ⟨w4.heap.size,1,none⟩ (.int .u64 vi):=⟨_,rfl⟩;have nrow:∀ q,(Value.slice lo i lc).ownBlock=some q->q≠w4.heap.size:=fun q hq=>by
                  have:=(World.ownsRow.lt (er_upd RI.out U4.out pl) q hq).2
                  omega
                have ER8:Hid (ER w8 w.heap.size (.slice lo i lc) (kF f) (vF f) (gF f) i):=by
                  rw [hw8];exact own_kept ER6 fun q hq=>Go.Deep.blk_setCell_other _ _ _ _ (nrow q hq)
                have DS8:Hid (DStep w w8 p S f m (eOff f (i+1))):=by
                  rw [hw8];exact DS6.setN SZ.out FZz.out _ _
                have Z8:w8.cell? ⟨w4.heap.size,0,none⟩=some (.int .u64 ki)/\w8.cell? ⟨w4.heap.size,1,none⟩=some (.int .u64 vi)/\w8.cell? ⟨w4.heap.size,2,none⟩=some (.bool false):=by
                  rw [hw8];refine ⟨?_,?_,?_⟩<;>simp [World.cell?,World.setCell,Array.getElem?_modify,B6]
                obtain ⟨zz0,zz1,zz2⟩:=Z8;have SZ8:Hid (w.heap.size<=w8.heap.size/\w4.heap.size<w8.heap.size):=by
                  show _/\_;rw [hw8];have:=SZ.out;simp;omega
                have l8:=SZ8.out.2;have ON:Hid (eOff f (i+1)<=m/\∀ t,t<i+1->eOff f t+9<=m/\f (eOff f t+8)<=1/\eOff f (t+1)<=m):=⟨by rw [KV.out.2.2];omega,fun t ht=>by
                  by_cases c:t=i
                  · subst c;exact ⟨C9.out.1,by rw [HY.out];decide,by rw [KV.out.2.2];omega⟩
                  · exact EI.out t (by omega)⟩
                have NW:Hid (∀ j u,([.int .u64 ki,.int .u64 vi,.bool false]:List Value)[j]?=some u->(w8.alloc (.cells #[.int .u64 ki,.int .u64 vi,.bool false] 81)).cell? ((⟨w6.heap.size,0,none⟩:Addr).add j)=some u):=by
                  have:=new_ent12 w8 ki vi false
                  rw [show w8.heap.size=w6.heap.size by rw [hw8];simp] at this
                  exact this
                have BS8:Hid (w.heap.size<=w6.heap.size+1):=by show _<=_;have:=SZ.out;omega
                clear RI EI DS6 ER6 vv hvi nrow B6 R6 BXH l8;subst hw8;go_wp2_with (at_builtin;refine wpList_append_own _ rfl _ _ 47 rfl w.heap.size 81 ii (.agg #[.int .u64 0,.int .u64 0,.bool false]) 3 24 underlying47 hii iz is iby rfl (by decide) _ i _ rfl (own_kept ER8.out fun q hq=>((Gw.refl _).alloc _ _).below.block q (World.ownsRow.lt ER8.out q hq).2) ⟨w6.heap.size,0,none⟩ 1 1 [.int .u64 ki,.int .u64 vi,.bool false] rfl rfl NW.out (by intro u hu;simp at hu;rcases hu with rfl | rfl | rfl<;>rfl) (by simp only [maxLen];omega) (by omega) (by have:=BS8.out;simp;omega) ?next)
                case next =>
                  intro v7 w7 r1 r2 r3;obtain ⟨ao7,c7,rfl⟩:∃ ao c,v7=.slice ao (i+1) c:=by
                    rcases r1.2 with ⟨e,z⟩ | ⟨g,cap,cur,e,hb,hh,hc,_⟩
                    · exact ⟨none,0,by rw [e];congr 1;omega⟩
                    · exact ⟨some ⟨g,0,none⟩,cap,e⟩
                  have FIN:=ESU.out _ ki vi false _ w7 DS8.out.1 DS8.out ER8.out HKI.out.symm HVI.out.symm KV.out.2.1.symm r1 r2;have F1:Hid (ER w7 w.heap.size (.slice ao7 (i+1) c7) (kF f) (vF f) (gF f) (i+1)):=FIN.1;have F2:Hid (DStep w w7 p S f m (eOff f (i+1))):=FIN.2;clear FIN r1 r2 r3 ESU;go_wp2_with fail;go_roundg (n-(i+1))
                  case measure=>omega
                  case rel=>exact ⟨i+1,ao7,c7,rfl,by go_num,by omega,Nat.le_refl _,F1,F2,(show Hid _ from ON.out.1),(show Hid _ from ON.out.2)⟩
              · have t1:(er != 0)=true:=by simpa using e0
                have NO:Hid (¬ EntOK f m):=fun t=>by
                  have:=(t.2 i (by rw [HN.out];exact hlt)).2.2
                  rw [KV.out.2.2] at this;omega
                have FIN:Hid (Upd p w w6):=((UI.out.trans U4.out).allocN _ _).trans R6.1;clear R6 ESU;go_wp2_with fail;go_ret2;exact .inr ⟨NO.out,rfl,FIN.out⟩
          · have t1:(er != 0)=true:=by simpa using e0
            have NO:Hid (¬ EntOK f m):=fun t=>c1 (by
              have:=t.2 i (by rw [HN.out];exact hlt)
              exact ⟨by omega,this.2.1⟩)
            have FIN:Hid (Upd p w w4):=(UI.out.trans U3.out).trans R4.1;clear R4 c1;go_wp2_with fail;go_ret2;exact .inr ⟨NO.out,rfl,FIN.out⟩
        · have t1:(er != 0)=true:=by simpa using e0
          have NO:Hid (¬ EntOK f m):=fun t=>b1 (by
            have:=t.2 i (by rw [HN.out];exact hlt)
            omega)
          have U3:Hid (Upd p w w3):=UI.out.trans R3.1;obtain ⟨u3,S3,r3,sub3⟩:=R3;have C3:Hid _:=dbyt_any (show m<=140737488355000 by omega) OI.out r3
          clear u3 r3 sub3 b1;go_wp2_with fail;refine Calls.mono C3.out ?_;rintro e w4 ⟨x4,er4,o4,rfl,R4,_⟩;have FIN:Hid (Upd p w w4):=U3.out.trans R4.1;clear R4 C3;go_wp2_with fail;go_ret2;exact .inr ⟨NO.out,rfl,FIN.out⟩
      · have ei:i=n:=by omega
        subst ei;have FIN:Hid (EntOK f m):=⟨A1.out,fun t ht=>EI.out t (by rw [HN.out] at ht;exact ht)⟩
        clear EI;go_wp2_with fail;go_ret2;exact .inl ⟨FIN.out,lo,lc,by rw [HN.out];rfl,by rw [HN.out];exact RI.out,by rw [HN.out];exact SI.out⟩
  · have t1:(er != 0)=true:=by simpa using e0
    have NO:Hid (¬ EntOK f m):=fun t=>a1 t.1
    have FIN:Hid (Upd p w w2):=R.1;clear R a1;go_wp2_with fail;go_ret2;exact .inr ⟨NO.out,rfl,FIN.out⟩
end Go.Proofs.YtpoohadckhphpaaGreat
namespace Go.Proofs.YtpoohadckhphpaaGreat
open Go.RowKit
attribute [local go_sem] run_store_float
def GetOutD (w w':World) (e:Ending) (f:Nat->Int) (m:Nat):Prop :=
  (Fit f m/\∃ p S,e=.returned (.tuple #[.pointer (some ⟨p,0,none⟩),.int .i64 0])/\(∀ q,S q->w.heap.size<=q)/\HDoc w' p S (numR f 4 8) (kF f) (vF f) (gF f) (nF f) (LF f))\/(¬ Fit f m/\e=.returned (.tuple #[.pointer none,.int .i64 120]))
structure DOu (W1:World) (B:Nat) (p:Nat) (S:Nat->Prop) (f:Nat->Int) (m:Nat) (eo:Option Addr) (wr:World) (i:Nat) (ko lo:Option Addr) (lc:Nat):Prop where
  st:DStep W1 wr p S f m (lOff f (lO f) i)
  lv:∃ vals,OwnV wr B (.slice lo i lc) ((LF f).take i) vals
  ks:KS wr ko (belowN f i) (rowF (kF f) (LF f) i)
  kp:∀ a,ko=some a->a.block≠p
  es:ES wr eo (nF f) (kF f) (vF f) (gF f)
  om:lOff f (lO f) i<=m
  ok:∀ l,l<i->LvFit f m (lOff f (lO f) l) (belowN f l)
  sz:B<=wr.heap.size
structure DIn (W0:World) (p:Nat) (S:Nat->Prop) (f:Nat->Int) (m o N:Nat) (key:Nat->Int) (wr:World) (k:Nat) (ro fo:Option Addr) (rc fc:Nat):Prop where
  st:DStep W0 wr p S f m (o+8+24*k)
  row:SR wr W0.heap.size (.slice ro k rc) ((List.range k).map (sgF f o key))
  fst:wr.ownsRow W0.heap.size 37 1 (.slice fo k fc) k ((List.range k).map fun j=>Value.int .u64 (key (frF f o j).toNat))
  ap:∀ q,(Value.slice ro k rc).ownBlock=some q->(Value.slice fo k fc).ownBlock≠some q
  om:o+8+24*k<=m
  ok:∀ t,t<k->SegFit f m o N t
theorem ks_ownU {w:World} {base n c:Nat} {ao:Option Addr} {f:Nat->Int} (h:w.ownsRow base 37 1 (.slice ao n c) n ((List.range n).map fun i=>Value.int .u64 (f i))) (bd:∀ i,i<n->0<=f i/\f i<18446744073709551616):KS w ao n f/\∀ a,ao=some a->base<=a.block:=by
  refine ⟨⟨fun h0=>?_,bd⟩,fun a e=>?_⟩
  · rcases h.2 with ⟨e,z⟩ | ⟨g,cap,cur,e,hb,hh,r⟩
    · omega
    · cases e
      refine ⟨g,0,rfl,(Array.getElem?_eq_some_iff.1 hh).1,fun i hi=>?_⟩
      rw [Nat.zero_add,World.ownsRow.cellAt h i (by omega)]
      simp [hi]
  · rcases h.2 with ⟨x,z⟩ | ⟨g,cap,cur,x,hb,hh,r⟩
    · cases x;cases e
    · cases x;cases e;exact hb
theorem dget (ao:Option Addr) (m cp:Nat) (f:Nat->Int) (hm:m<=1000000000) (hz:ao=none->m=0/\cp=0) (md:Mod f m) (w:World) (h:BS w ao m f) :
    Calls prog 26 #[.slice ao m cp] w fun e w'=>GetOutD w w' e f m/\Gw w w':=by
  have MD:Hid (Mod f m):=md;have BD:Hid (∀ i,i<m->0<=f i/\f i<256):=h.bd;have C0:Hid _:=rnew10_any ao m cp f (show m<=140737488355000 by omega) hz w h
  obtain ⟨jk,hjk,kz,ks_,kby⟩:=info_parts info_k;obtain ⟨js,hjs,sz,ss_,sby⟩:=info_parts info_sg;obtain ⟨jv,hjv,vz,vs_,vby⟩:=info_parts info_sgs;clear h md;go_enter func26,ntmps26;go_wp2_with fail;refine Calls.mono C0.out ?_;rintro e w1 ⟨⟨p,S,rfl,rd,hS⟩,g1⟩;have pl:p<w1.heap.size:=RRd.lt rd p (RRd.own rd);have pw:w.heap.size<=p:=hS p (RRd.own rd);have FZz:Hid (∀ q,S q->q<w1.heap.size):=fun q hq=>RRd.lt rd q hq
  have G1:Hid (Gw w w1):=g1;have GU:Hid (∀ W,Upd p w1 W->Gw w W):=fun W u=>u.gw w pw g1
  have rd0:DRd w1 p S f m 0:=by
    show RRd _ _ _ _ _ _;simpa using rd
  have C1:Hid _:=docr.word ⟨#[73,78,67,49]⟩ (show m-0<=140737488355000 by omega) rd0
  have fz:(fun i=>f (0+i))=f:=funext fun i=>by rw [Nat.zero_add]
  clear rd rd0 hS g1 C0;go_wp2_with fail;refine Calls.mono C1.out ?_;rintro e w2 ⟨he,hR⟩;clear C1;unfold wordA at he hR;rw [fz] at he hR;by_cases hd:4<=m/\Lies f 0 headB
  rotate_left
  · obtain ⟨er,rfl,e0⟩:∃ er,e=.returned (.int .i64 er)/\er≠0:=by
      by_cases c:m-0<(⟨#[73,78,67,49]⟩:ByteArray).size
      · rw [if_pos c] at he;exact ⟨100,he,by decide⟩
      · rw [if_neg c,if_neg (fun t=>hd ⟨by have e4:(⟨#[73,78,67,49]⟩:ByteArray).size=4:=rfl;omega,head_lies.1 t⟩)] at he
        exact ⟨101,he,by decide⟩
    have t1:(er != 0)=true:=by simpa using e0
    have NF:Hid (¬ Fit f m):=fun t=>hd t.1.hd
    have FIN:Hid (Gw w w2):=GU.out w2 hR.1;clear hR hd he;go_wp2_with fail;go_ret2;exact ⟨.inr ⟨NF.out,rfl⟩,FIN.out⟩
  have s4:(⟨#[73,78,67,49]⟩:ByteArray).size=4:=rfl;rw [if_neg (by omega),if_pos (head_lies.2 hd.2)] at he hR
  have HD:Hid (4<=m/\Lies f 0 headB):=hd;have R2:DStep w1 w2 p S f m 4:=by
    have h9:Rds 66 p S (fun i=>f (0+i)) (m-0) 4 w1 w2:=by rw [fz];exact hR
    exact h9.dstep
  subst he;obtain ⟨u2,S2,r2,sub2⟩:=R2;have U2:Hid (Upd p w1 w2):=u2;have SB2:Hid (∀ q,S2 q->S q):=sub2;have C2:Hid _:=dcnt 64 (by decide) (by decide) (show m<=140737488355000 by omega) hd.1 r2
  clear hR hd u2 r2 sub2 fz;go_wp2_with fail;refine Calls.mono C2.out ?_;rintro e w3 hh;clear C2;rcases hh with ⟨a1,rfl,R3⟩ | ⟨a1,er,rfl,e0,R3⟩
  rotate_left
  · have t1:(er != 0)=true:=by simpa using e0
    have NF:Hid (¬ Fit f m):=fun t=>a1 t.1.ep
    have FIN:Hid (Gw w w3):=GU.out w3 (U2.out.trans R3.1);clear R3 a1;go_wp2_with fail;go_ret2;exact ⟨.inr ⟨NF.out,rfl⟩,FIN.out⟩
  have A1:Hid (12<=m/\numR f 4 8<=64):=a1;have ep0:0<=numR f 4 8:=(num_bd8 BD.out (show 4+8<=m from a1.1)).1;have ep1:=a1.2;obtain ⟨u3,S3,r3,sub3⟩:=R3;have U3:Hid (Upd p w1 w3):=U2.out.trans u3;have SB3:Hid (∀ q,S3 q->S q):=fun q hq=>SB2.out q (sub3 q hq)
  obtain ⟨eps,heps⟩:∃ eps,numR f 4 8=eps:=⟨_,rfl⟩;have HE:Hid (numR f 4 8=eps):=heps;rw [heps] at ep0 ep1 ⊢;by_cases e2:eps<2
  · have t2:decide (eps<2)=true:=by simpa using e2
    have NF:Hid (¬ Fit f m):=fun t=>by
      have:=t.2.new0.1.up.1.1
      rw [HE.out] at this;omega
    have FIN:Hid (Gw w w3):=GU.out w3 U3.out;clear a1 r3 u3 sub3;go_wp2_with fail;go_ret2;exact ⟨.inr ⟨NF.out,rfl⟩,FIN.out⟩
  have t2:decide (eps<2)=false:=by simpa using e2
  have C3:Hid _:=dread hm a1.1 BD.out r3;clear a1 r3 u3 sub3 heps;go_wp2_with fail;refine Calls.mono C3.out ?_;rintro e w4 hh;clear C3;rcases hh with ⟨a2,eo,ec,rfl,er4,R4⟩ | ⟨a2,rfl,R4⟩
  rotate_left
  · have NF:Hid (¬ Fit f m):=fun t=>a2 ⟨t.1.nn,t.1.en⟩
    have FIN:Hid (Gw w w4):=GU.out w4 (U3.out.trans R4);clear R4 a2;go_wp2_with fail;go_ret2;exact ⟨.inr ⟨NF.out,rfl⟩,FIN.out⟩
  have EO:Hid (EntOK f m):=a2;have n1:Hid (nF f<=2000000):=MD.out.n1 a2.room;have E4:Hid (ES w4 eo (nF f) (kF f) (vF f) (gF f)/\(∀ a,eo=some a->a.block≠p)/\nF f<=ec/\(eo=none->nF f=0/\ec=0)/\∀ a,eo=some a->a.block<w4.heap.size):=by
    obtain ⟨bo,c,e1,e2,e3⟩:=er_form er4;cases e1;refine ⟨er_es er4 (kF_bd BD.out a2),fun a ha=>?_,e2,fun hn=>?_,fun a ha=>(e3 a ha).2⟩
    · have:=(e3 a ha).1
      have:=U3.out.size
      omega
    · rcases er4.2 with ⟨x,z⟩ | ⟨g,cap,cur,x,_⟩
      · injection x with x1 x2 x3
        exact ⟨z,x3⟩
      · injection x with x1 x2 x3
        rw [x1] at hn;cases hn
  obtain ⟨u4,S4,r4,sub4⟩:=R4;have U4:Hid (Upd p w1 w4):=U3.out.trans u4;have SB4:Hid (∀ q,S4 q->S q):=fun q hq=>SB3.out q (sub4 q hq)
  have oe:eOff f (nF f)<=m:=by
    cases hnn:nF f with
    | zero=>exact a2.1.1
    | succ i=>exact (a2.2 i (by omega)).2.2
  have C4:Hid _:=dcnt 4294967296 (by decide) (by decide) (show m<=140737488355000 by omega) oe r4
  clear u4 r4 sub4 er4 a2;obtain ⟨n,hn⟩:∃ n,nF f=n:=⟨_,rfl⟩;have HN:Hid (nF f=n):=hn;rw [hn];clear hn;go_wp2_with fail;refine Calls.mono C4.out ?_;rintro e w5 hh;clear C4;rcases hh with ⟨a3,rfl,R5⟩ | ⟨a3,er,rfl,e0,R5⟩
  rotate_left
  · have t1:(er != 0)=true:=by simpa using e0
    have NF:Hid (¬ Fit f m):=fun t=>a3 t.1.hh
    have FIN:Hid (Gw w w5):=GU.out w5 (U4.out.trans R5.1);clear R5 a3;go_wp2_with fail;go_ret2;exact ⟨.inr ⟨NF.out,rfl⟩,FIN.out⟩
  have A3:Hid (lO f<=m/\numR f (eOff f (nF f)) 8<=4294967296):=a3;have hc:numR f (eOff f (nF f)) 8=(hF f:Int):=(cF_cast BD.out (show eOff f (nF f)+8<=m from a3.1)).symm;have ST5:Hid (DStep w1 w5 p S f m (lO f)):=DStep.after U4.out SB4.out R5;have E5:Hid (ES w5 eo (nF f) (kF f) (vF f) (gF f)):=E4.out.1.upd R5.1 E4.out.2.1;rw [hc] at a3 ⊢;obtain ⟨ht,hht⟩:∃ ht,hF f=ht:=⟨_,rfl⟩;have HH:Hid (hF f=ht):=hht;have LL:Hid ((LF f).length=ht):=by show _=_;rw [LF_len,hht]
  rw [hht] at a3 ⊢;have h1:ht<=4294967296:=by omega
  have n2:n<=2000000:=HN.out▸n1.out;have SZ5:Hid (w1.heap.size<=w5.heap.size):=ST5.out.1.size;have EB5:Hid (∀ a,eo=some a->a.block<w5.heap.size):=fun a ha=>Nat.lt_of_lt_of_le (E4.out.2.2.2.2 a ha) R5.1.size
  clear R5 a3 hc hht U2 U3 oe;have K0:Hid (w5.ownsRow w5.heap.size 37 1 (.slice none 0 0) 0 ((List.range 0).map fun j=>Value.int .u64 (kF f j))):=World.ownsRow_nil _ _ _ _
  go_wp2_with fail;go_loopg [10,11] n (fun gg s10 s11 wr=>∃ (i:Nat) (ko:Option Addr) (kc:Nat),s10=.slice ko i kc/\s11=.int .i64 i/\i<=n/\n-i<=gg/\Hid (wr.ownsRow w5.heap.size 37 1 (.slice ko i kc) i ((List.range i).map fun j=>Value.int .u64 (kF f j)))/\Hid (Gw w5 wr))
  case atStart=>exact ⟨0,none,0,rfl,rfl,Nat.zero_le _,by omega,K0,(show Hid _ from Gw.refl _)⟩
  case round =>
    clear K0;obtain ⟨i,ko,kc,rfl,rfl,h2,h3,KI,GI⟩:=hrel;by_cases hlt:i<n
    · obtain ⟨eb,ef,rfl,heb,hec⟩:=(E5.out.gw GI.out).cells (by rw [HN.out];omega)
      obtain ⟨d1,d2,d3⟩:=hec i (by rw [HN.out];exact hlt)
      have KS1:Hid ((List.range (i+1)).map (fun j=>Value.int .u64 (kF f j))=(List.range i).map (fun j=>Value.int .u64 (kF f j))++[.int .u64 (kF f i)]):=by show _=_;rw [List.range_succ];simp
      generalize kF f i=ki at d1 KS1;have z0:=GI.out.size;clear hec d2 d3;go_wp2_with (at_builtin;refine wpList_append_own _ rfl _ _ 103 rfl w5.heap.size 37 jk (.int .u64 0) 1 8 underlying103 hjk kz ks_ kby rfl (by decide) _ i _ rfl (KI.out.alloc _) ⟨wr.heap.size,0,none⟩ 1 1 [.int .u64 ki] rfl rfl (new_one3 wr ki) (ints_oneCell .u64 [ki]) (by simp only [maxLen];omega) (by omega) (by simp;omega) ?_)
      intro v7 w7 r1 r2 r3;obtain ⟨ao7,c7,rfl⟩:=own_form r1;have F1:Hid (w7.ownsRow w5.heap.size 37 1 (.slice ao7 (i+1) c7) (i+1) ((List.range (i+1)).map fun j=>Value.int .u64 (kF f j))):=by
        show World.ownsRow _ _ _ _ _ _ _;rw [KS1.out];exact r1
      have F2:Hid (Gw w5 w7):=(GI.out.alloc _ _).grown r2 (fun q hq=>(World.ownsRow.lt KI.out q hq).1)
      clear r1 r2 r3 KI GI;go_wp2_with fail;go_roundg (n-(i+1))
      case measure=>omega
      case rel=>exact ⟨i+1,ao7,c7,rfl,by go_num,by omega,Nat.le_refl _,F1,F2⟩
    · have ei:i=n:=by omega
      subst ei;have DO0:Hid (DOu w1 w5.heap.size p S f m eo wr 0 ko none 0):=by
        have k9:=ks_ownU KI.out (fun t ht=>(E5.out.bd t (by rw [HN.out];exact ht)).1)
        have bz:belowN f 0=i:=by unfold belowN;rw [if_pos rfl,HN.out]
        refine ⟨ST5.out.gw GI.out,⟨[],?_⟩,?_,fun a ha=>?_,E5.out.gw GI.out,A3.out.1,fun l hl=>by omega,GI.out.size⟩
        · simpa using ownv_nil wr w5.heap.size
        · rw [bz];exact k9.1
        · have:=k9.2 a ha
          have:=SZ5.out
          omega
      have BZ:Hid (belowN f 0=i):=by show _=_;unfold belowN;rw [if_pos rfl,HN.out]
      clear KI GI ST5;go_wp2_with fail;go_loopg [10,12,13] ht (fun gg s10 s12 s13 wr=>∃ (j:Nat) (ko lo:Option Addr) (kc lc:Nat),s10=.slice ko (belowN f j) kc/\s12=.slice lo j lc/\s13=.int .i64 j/\j<=ht/\ht-j<=gg/\Hid (DOu w1 w5.heap.size p S f m eo wr j ko lo lc))
      case atStart=>exact ⟨0,ko,none,kc,0,by rw [BZ.out],rfl,rfl,Nat.zero_le _,by omega,DO0⟩
      case round =>
        clear DO0 BZ;obtain ⟨j,ko,lo,kc,lc,rfl,rfl,rfl,j1,j2,DJ⟩:=hrel;obtain ⟨wO,hwO⟩:∃ wx,wx=wr:=⟨_,rfl⟩;subst hwO;by_cases hlt:j<ht
        · obtain ⟨o,ho⟩:∃ o,lOff f (lO f) j=o:=⟨_,rfl⟩
          obtain ⟨N,hN⟩:∃ N,belowN f j=N:=⟨_,rfl⟩;obtain ⟨key,hkey⟩:∃ key,rowF (kF f) (LF f) j=key:=⟨_,rfl⟩;have HO:Hid (lOff f (lO f) j=o/\belowN f j=N/\rowF (kF f) (LF f) j=key):=⟨ho,hN,hkey⟩;have hjF:j<hF f:=by rw [HH.out];exact hlt
          have KJ:Hid (KS wO ko N key/\∀ a,ko=some a->a.block≠p):=⟨by have:=DJ.out.ks;rw [hN,hkey] at this;exact this,DJ.out.kp⟩
          have NFit:Hid (∀ t:Fit f m,LvFit f m o N):=fun t=>by have:=t.1.lv j hjF;rw [ho,hN] at this;exact this
          have UW:Hid (Upd p w1 wO):=DJ.out.st.1;have S5J:Hid (w5.heap.size<=wO.heap.size):=DJ.out.sz;obtain ⟨_,SJ,rJ,subJ⟩:=DJ.out.st;have SBJ:Hid (∀ q,SJ q->S q):=subJ;have pJ:p<wO.heap.size:=RRd.lt rJ p (RRd.own rJ);have FSJ:Hid (∀ q,SJ q->q<wO.heap.size):=fun q hq=>RRd.lt rJ q hq
          have oJ:=DJ.out.om;rw [ho] at rJ oJ;have C5:Hid _:=dcnt 4294967296 (by decide) (by decide) (show m<=140737488355000 by omega) oJ rJ
          have NB:Hid (N<=4294967296):=by
            show _<=_;rw [<-hN];unfold belowN;by_cases z:j=0
            · rw [if_pos z];have:=n1.out;omega
            · rw [if_neg z]
              have L:=DJ.out.ok (j-1) (by omega)
              have a:=L.cnt;have b:=L.room;have c:=cF_cast BD.out b;omega
          have nb:=NB.out;rw [hN];clear rJ subJ ho hN hkey;go_wp2_with fail;refine Calls.mono C5.out ?_;rintro e w6 hh;clear C5;rcases hh with ⟨b1,rfl,R6⟩ | ⟨b1,er,rfl,e0,R6⟩
          rotate_left
          · have t1:(er != 0)=true:=by simpa using e0
            have NF:Hid (¬ Fit f m):=fun t=>b1 ⟨(NFit.out t).room,(NFit.out t).cnt⟩
            have FIN:Hid (Gw w w6):=GU.out w6 (UW.out.trans R6.1);clear R6 b1;go_wp2_with fail;go_ret2;exact ⟨.inr ⟨NF.out,rfl⟩,FIN.out⟩
          have B1:Hid (o+8<=m/\numR f o 8<=4294967296):=b1;have cc:numR f o 8=(cF f o:Int):=(cF_cast BD.out b1.1).symm;rw [cc] at b1 ⊢;obtain ⟨c,hc⟩:∃ c,cF f o=c:=⟨_,rfl⟩;have HC:Hid (cF f o=c):=hc;rw [hc] at b1 ⊢;have c1:c<=4294967296:=by omega
          have I0:Hid (DIn wO p SJ f m o N key w6 0 none none 0 0):=⟨R6,World.ownsRow_nil _ _ _ _,World.ownsRow_nil _ _ _ _,(fun q hq=>by cases hq),b1.1,(fun t ht=>by omega)⟩
          clear R6 cc hc b1;go_wp2_with fail;go_loopg [16,17,18,19] c (fun gg s16 s17 s18 s19 wi=>∃ (k:Nat) (ro fo:Option Addr) (rc fc:Nat),s16=.slice ro k rc/\s17=.slice fo k fc/\s18=.int .i64 (frF f o k)/\s19=.int .i64 k/\k<=c/\c-k<=gg/\Hid (DIn wO p SJ f m o N key wi k ro fo rc fc))
          case atStart=>exact ⟨0,none,none,0,0,rfl,rfl,rfl,rfl,Nat.zero_le _,by omega,I0⟩
          case round =>
            clear I0;obtain ⟨k,ro,fo,rc,fc,rfl,rfl,rfl,rfl,k1,k2,IK⟩:=hrel;by_cases hlk:k<c
            · have f0:=frF_nn (j:=k) BD.out IK.out.ok
              obtain ⟨fr,hfr⟩:∃ fr:Nat,frF f o k=(fr:Int):=⟨(frF f o k).toNat,by omega⟩
              have HF:Hid (frF f o k=(fr:Int)):=hfr;rw [hfr];obtain ⟨uI,SI,rI,subI⟩:=IK.out.st;have UI:Hid (Upd p wO wr):=uI;have SBI:Hid (∀ q,SI q->SJ q):=subI;have oI:=IK.out.om;have hkF:k<cF f o:=by rw [HC.out];exact hlk
              have SEG:Hid (∀ t:Fit f m,SegFit f m o N k):=fun t=>(NFit.out t).seg k hkF
              have C6:Hid _:=dcnt 4294967296 (by decide) (by decide) (show m<=140737488355000 by omega) oI rI
              clear uI rI subI hfr;go_wp2_with fail;refine Calls.mono C6.out ?_;rintro e w7 hh;clear C6;rcases hh with ⟨d1,rfl,R7⟩ | ⟨d1,er,rfl,e0,R7⟩
              rotate_left
              · have t1:(er != 0)=true:=by simpa using e0
                have NF:Hid (¬ Fit f m):=fun t=>d1 (by have q:=(SEG.out t);have r:=q.room;exact ⟨by omega,q.te⟩)
                obtain ⟨u7,S7,r7,_⟩:=R7;have U7:Hid (Upd p w1 w7):=(UW.out.trans UI.out).trans u7;have C7:Hid _:=dflt_any (show m<=140737488355000 by omega) oI r7
                clear u7 r7 d1;go_wp2_with fail;refine Calls.mono C7.out ?_;rintro e w8 ⟨x8,er8,o8,rfl,R8,l8⟩;obtain ⟨u8,S8,r8,_⟩:=R8;have U8:Hid (Upd p w1 w8):=U7.out.trans u8;have C8:Hid _:=dflt_any (show m<=140737488355000 by omega) l8 r8
                clear u8 r8 C7;go_wp2_with fail;refine Calls.mono C8.out ?_;rintro e w9 ⟨x9,er9,o9,rfl,R9,l9⟩;have FIN:Hid (Gw w w9):=GU.out w9 (U8.out.trans R9.1);clear R9 C8;go_wp2_with fail;go_ret2;exact ⟨.inr ⟨NF.out,rfl⟩,FIN.out⟩
              have D1:Hid (o+8+24*k+8<=m/\numR f (o+8+24*k) 8<=4294967296):=d1;obtain ⟨u7,S7,r7,sub7⟩:=R7;have U7:Hid (Upd p wO w7):=UI.out.trans u7;have U7w:Hid (Upd p _ w7):=u7;have SB7:Hid (∀ q,S7 q->SJ q):=fun q hq=>SBI.out q (sub7 q hq)
              have C7:Hid _:=dflt (show m<=140737488355000 by omega) d1.1 r7
              clear u7 r7 sub7 d1;go_wp2_with fail;refine Calls.mono C7.out ?_;rintro e w8 hh;clear C7;rcases hh with ⟨d2,rfl,R8⟩ | ⟨d2,er,rfl,e0,R8⟩
              rotate_left
              · have t1:(er != 0)=true:=by simpa using e0
                have NF:Hid (¬ Fit f m):=fun t=>d2 (by have q:=(SEG.out t);have r:=q.room;exact ⟨by omega,q.sl⟩)
                obtain ⟨u8,S8,r8,_⟩:=R8;have U8:Hid (Upd p w1 w8):=(UW.out.trans U7.out).trans u8;have C8:Hid _:=dflt_any (show m<=140737488355000 by omega) D1.out.1 r8
                clear u8 r8 d2;go_wp2_with fail;refine Calls.mono C8.out ?_;rintro e w9 ⟨x9,er9,o9,rfl,R9,l9⟩;have FIN:Hid (Gw w w9):=GU.out w9 (U8.out.trans R9.1);clear R9 C8;go_wp2_with fail;go_ret2;exact ⟨.inr ⟨NF.out,rfl⟩,FIN.out⟩
              have D2:Hid (numR f (o+8+24*k+8) 8/4503599627370496%2048≠2047):=d2.2;obtain ⟨u8,S8,r8,sub8⟩:=R8;have U8:Hid (Upd p wO w8):=U7.out.trans u8;have U8w:Hid (Upd p _ w8):=U7w.out.trans u8;have SB8:Hid (∀ q,S8 q->SJ q):=fun q hq=>SB7.out q (sub8 q hq)
              have C8:Hid _:=dflt (show m<=140737488355000 by omega) d2.1 r8
              clear u8 r8 sub8 d2;go_wp2_with fail;refine Calls.mono C8.out ?_;rintro e w9 hh;clear C8;rcases hh with ⟨d3,rfl,R9⟩ | ⟨d3,er,rfl,e0,R9⟩
              rotate_left
              · have t1:(er != 0)=true:=by simpa using e0
                have NF:Hid (¬ Fit f m):=fun t=>d3 (by
                  have q:=(SEG.out t);have r:=q.room;have s:=q.ic;rw [show o+8+24*k+16=o+8+24*k+8+8 by omega] at s
                  exact ⟨by omega,s⟩)
                have FIN:Hid (Gw w w9):=GU.out w9 ((UW.out.trans U8.out).trans R9.1);clear R9 d3;go_wp2_with fail;go_ret2;exact ⟨.inr ⟨NF.out,rfl⟩,FIN.out⟩
              have D3:Hid (o+8+24*k+24<=m/\numR f (o+8+24*k+16) 8/4503599627370496%2048≠2047):=by
                refine ⟨by omega,?_⟩
                rw [show o+8+24*k+16=o+8+24*k+8+8 by omega]
                exact d3.2
              have U9:Hid (Upd p wO w9):=U8.out.trans R9.1;have U9w:Hid (Upd p _ w9):=U8w.out.trans R9.1;have ST9:Hid (DStep wO w9 p SJ f m (o+8+24*(k+1))):=by
                have:=DStep.after U8.out SB8.out R9
                rw [show o+8+24*k+8+8+8=o+8+24*(k+1) by omega] at this
                exact this
              rw [show o+8+24*k+8+8=o+8+24*k+16 by omega]
              clear R9 d3;by_cases q:fr<N
              rotate_left
              · have tq:decide ((N:Int)<=(fr:Int))=true:=by simpa using q
                have tq2:decide (N<=fr)=true:=by simpa using q
                have NF:Hid (¬ Fit f m):=fun t=>q (by have r:=(SEG.out t).fr;rw [HF.out,Int.toNat_natCast] at r;exact r)
                have FIN:Hid (Gw w w9):=GU.out w9 (UW.out.trans U9.out);clear q;go_wp2_with fail;go_ret2;exact ⟨.inr ⟨NF.out,rfl⟩,FIN.out⟩
              have tq:decide ((N:Int)<=(fr:Int))=false:=by simpa using q
              have tq2:decide (N<=fr)=false:=by simpa using q
              obtain ⟨bk,off,rfl,hbk,hkc⟩:=(KJ.out.1.upd U9.out KJ.out.2).cells (Nat.lt_of_le_of_lt (Nat.zero_le _) q);have kc9:=hkc fr q;have frN:(fr:Int)<(N:Int):=by omega
              have bkw:bk<wO.heap.size:=by
                obtain ⟨b',o',e',x,_⟩:=KJ.out.1.cells (Nat.lt_of_le_of_lt (Nat.zero_le _) q);cases e';exact x
              have SG:Hid (sgF f o key k=⟨key fr,(numR f (o+8+24*k+8) 8).toNat,(numR f (o+8+24*k+16) 8).toNat,(fr:Int),numR f (o+8+24*k) 8⟩):=by
                show _=_;unfold sgF teF;rw [HF.out,Int.toNat_natCast]
              have FK:Hid (key (frF f o k).toNat=key fr):=by show _=_;rw [HF.out,Int.toNat_natCast]
              have row9:Hid (SR w9 wO.heap.size (.slice ro k rc) ((List.range k).map (sgF f o key))):=sr_keep IK.out.row (fun q hq=>U9w.out.blk q (by have:=(sr_lt IK.out.row q hq).1;omega) (sr_lt IK.out.row q hq).2)
              have fst9:Hid (w9.ownsRow wO.heap.size 37 1 (.slice fo k fc) k ((List.range k).map fun j=>Value.int .u64 (key (frF f o j).toNat))):=own_kept IK.out.fst (fun q hq=>U9w.out.blk q (by have:=(World.ownsRow.lt IK.out.fst q hq).1;omega) (World.ownsRow.lt IK.out.fst q hq).2)
              have EK:Hid (∀ t,t<k+1->SegFit f m o N t):=fun t ht=>by
                by_cases c:t=k
                · subst c
                  exact ⟨D3.out.1,D1.out.2,D2.out,D3.out.2,by rw [HF.out,Int.toNat_natCast];exact q⟩
                · exact IK.out.ok t (by omega)
              have NX:Hid (frF f o (k+1)=numR f (o+8+24*k) 8):=rfl;have bnd:Hid (o+8+24*k<=m):=IK.out.om;have bk24:=bnd.out;have SZ9:=U9.out.size;have APK:Hid (∀ q,(Value.slice ro k rc).ownBlock=some q->(Value.slice fo k fc).ownBlock≠some q):=IK.out.ap;obtain ⟨te,hte⟩:∃ te,numR f (o+8+24*k) 8=te:=⟨_,rfl⟩;obtain ⟨sl,hsl⟩:∃ sl,(numR f (o+8+24*k+8) 8).toNat=sl:=⟨_,rfl⟩;obtain ⟨ic,hic⟩:∃ ic,(numR f (o+8+24*k+16) 8).toNat=ic:=⟨_,rfl⟩;rw [hte,hsl,hic] at SG;rw [hte] at NX;rw [hte,hsl,hic];obtain ⟨kx,hkx⟩:∃ kx,key fr=kx:=⟨_,rfl⟩;rw [hkx] at SG FK kc9;clear hkc IK q D1 D2 hte hsl hic hkx;have rl:((List.range k).map (sgF f o key)).length=k:=by simp
              have row9':Hid ((w9.alloc (.cells #[.int .u64 kx,.float .f64 sl,.float .f64 ic,.int .i64 (fr:Int),.int .i64 te] 110)).ownsRow wO.heap.size 110 5 (.slice ro k rc) k (((List.range k).map (sgF f o key)).flatMap sgc)):=by
                have h9:=row9.out;unfold SR at h9;rw [rl] at h9;exact h9.alloc _
              go_wp2_with (at_builtin;refine wpList_append_own_at _ rfl _ _ 105 rfl wO.heap.size 110 js (.agg #[.int .u64 0,.float .f64 0,.float .f64 0,.int .i64 0,.int .i64 0]) 5 40 underlying105 hjs sz ss_ sby rfl (by decide) _ k _ rfl row9'.out ⟨w9.heap.size,0,none⟩ 1 1 (sgc ⟨kx,sl,ic,(fr:Int),te⟩) rfl rfl (new_sg w9 ⟨kx,sl,ic,(fr:Int),te⟩) (sgc_one _) (by simp only [maxLen];omega) (by omega) (by simp;omega) ?_)
              intro vA wA r1 r2 r3 r4;obtain ⟨aoA,cA,rfl⟩:=own_form r1;have rowA:Hid (SR wA wO.heap.size (.slice aoA (k+1) cA) ((List.range (k+1)).map (sgF f o key))):=by
                show World.ownsRow _ _ _ _ _ _ _;rw [List.range_succ,List.map_append,List.map_cons,List.map_nil,SG.out,List.length_append,rl,flat_one];exact r1
              have STA:Hid (DStep wO wA p SJ f m (o+8+24*(k+1))):=(ST9.out.gw ((Gw.refl w9).alloc _ _)).grown r2 (fun q hq=>(World.ownsRow.lt row9'.out q hq).1) FSJ.out
              have fstA:Hid (wA.ownsRow wO.heap.size 37 1 (.slice fo k fc) k ((List.range k).map fun j=>Value.int .u64 (key (frF f o j).toNat))):=own_kept fst9.out (fun q hq=>(r2.block q (by have:=(World.ownsRow.lt fst9.out q hq).2;simp;omega) (fun e=>APK.out q e.symm hq)).trans (((Gw.refl w9).alloc _ _).below.block q (World.ownsRow.lt fst9.out q hq).2))
              have apA:Hid (∀ q,(Value.slice aoA (k+1) cA).ownBlock=some q->(Value.slice fo k fc).ownBlock≠some q):=fun q hq hf=>by
                rcases r4 with x | x
                · exact APK.out q (x▸hq) hf
                · have x':(Value.slice aoA (k+1) cA).ownBlock=some (w9.heap.size+1):=by simpa using x
                  rw [x'] at hq;have:=(World.ownsRow.lt fst9.out q hf).2;cases hq;omega
              have kcA:wA.cell? ⟨bk,off+fr,none⟩=some (.int .u64 kx):=(World.cell?_of_block (a:=⟨bk,off+fr,none⟩) ((r2.block bk (by simp;omega) (fun e=>by have:=(World.ownsRow.lt row9'.out bk e.symm).1;omega)).trans (((Gw.refl w9).alloc _ _).below.block bk hbk))).trans kc9
              have lA:bk<wA.heap.size:=by have:=r2.size;simp at this;omega
              have sA:w9.heap.size<=wA.heap.size:=by have:=r2.size;simp at this;omega
              have KS1:Hid ((List.range (k+1)).map (fun j=>Value.int .u64 (key (frF f o j).toNat))=(List.range k).map (fun j=>Value.int .u64 (key (frF f o j).toNat))++[.int .u64 kx]):=by show _=_;rw [List.range_succ,List.map_append,List.map_cons,List.map_nil,FK.out]
              clear r1 r2 r3 r4 row9 row9' fst9 ST9 APK kc9 SG FK;go_wp2_with (at_builtin;refine wpList_append_own_at _ rfl _ _ 103 rfl wO.heap.size 37 jk (.int .u64 0) 1 8 underlying103 hjk kz ks_ kby rfl (by decide) _ k _ rfl (fstA.out.alloc _) ⟨wA.heap.size,0,none⟩ 1 1 [.int .u64 kx] rfl rfl (new_one3 wA kx) (ints_oneCell .u64 [kx]) (by simp only [maxLen];omega) (by omega) (by simp;omega) ?_)
              intro vB wB r1 r2 r3 r4;obtain ⟨aoB,cB,rfl⟩:=own_form r1;have IB:Hid (DIn wO p SJ f m o N key wB (k+1) aoA aoB cA cB):=by
                refine ⟨(STA.out.gw ((Gw.refl wA).alloc _ _)).grown r2 (fun q hq=>(World.ownsRow.lt fstA.out q hq).1) FSJ.out,?_,?_,fun q hq hf=>?_,by have:=D3.out.1;omega,EK.out⟩
                · exact sr_keep rowA.out (fun q hq=>(r2.block q (by have:=(sr_lt rowA.out q hq).2;simp;omega) (fun e=>apA.out q hq e.symm)).trans (((Gw.refl wA).alloc _ _).below.block q (sr_lt rowA.out q hq).2))
                · rw [KS1.out];exact r1
                · rcases r4 with x | x
                  · exact apA.out q hq (x▸hf)
                  · have x':(Value.slice aoB (k+1) cB).ownBlock=some (wA.heap.size+1):=by simpa using x
                    rw [x'] at hf;have:=(sr_lt rowA.out q hq).2;cases hf;omega
              clear r1 r2 r3 r4 rowA STA fstA apA kcA;go_wp2_with fail;go_roundg (c-(k+1))
              case measure=>omega
              case rel=>exact ⟨k+1,aoA,aoB,cA,cB,rfl,rfl,by rw [NX.out],by go_num,by omega,Nat.le_refl _,IB⟩
            · have ek:k=c:=by omega
              subst ek;obtain ⟨ho,hN,hkey⟩:=HO.out;have eL:(LF f).getD j []=lvF f o key:=by rw [LF_at hjF,ho,hkey]
              have rowJ:Hid (SR wr wO.heap.size (.slice ro k rc) ((LF f).getD j [])):=by
                show SR _ _ _ _;rw [eL];unfold lvF;rw [HC.out];exact IK.out.row
              have LVJ:Hid (LvFit f m o N):=⟨B1.out.1,B1.out.2,fun t ht=>IK.out.ok t (by rw [HC.out] at ht;exact ht)⟩
              obtain ⟨vals,OV⟩:=DJ.out.lv;have OVW:Hid (OwnV wr w5.heap.size (.slice lo j lc) ((LF f).take j) vals):=OV.keep fun q hq hl=>IK.out.st.1.blk q (by have:=SZ5.out;omega) hl
              have OV0:Hid (OwnV wO w5.heap.size (.slice lo j lc) ((LF f).take j) vals):=OV;have tl:((LF f).take j).length=j:=by rw [List.length_take,LL.out];omega
              have outer:Hid ((wr.alloc (.cells #[.slice ro k rc] 105)).ownsRow w5.heap.size 105 1 (.slice lo j lc) j vals):=by
                have h9:=OVW.out.outer;rw [tl] at h9;exact h9.alloc _
              have S5O:=S5J.out;have SZr:=IK.out.st.1.size;have TK:Hid ((LF f).take (j+1)=(LF f).take j++[(LF f).getD j []]):=take_next (by rw [LL.out];exact hlt)
              have jm:8*j<=m:=by
                have a9:=lOff_mono f (lO f) (Nat.zero_le j);rw [ho] at a9;omega
              have bN1:Hid (belowN f (j+1)=k):=by
                show _=_;unfold belowN;rw [if_neg (by omega),show j+1-1=j from rfl,ho,HC.out]
              have EK:Hid (∀ l,l<j+1->LvFit f m (lOff f (lO f) l) (belowN f l)):=fun l hl=>by
                by_cases c:l=j
                · subst c;rw [ho,hN];exact LVJ.out
                · exact DJ.out.ok l (by omega)
              have KB:=(LF_ok BD.out (fun i hi=>(E5.out.bd i hi).1) (j+1) (by omega) EK.out).2
              rw [<-belowN_eq (show j+1<=hF f by omega),bN1.out] at KB
              have e1:rowF (kF f) (LF f) (j+1)=fst8 ((LF f).getD j []):=by unfold rowF;rw [if_neg (by omega)];rfl
              have KSJ:Hid (KS wr fo k (rowF (kF f) (LF f) (j+1))/\∀ a,fo=some a->wO.heap.size<=a.block):=by
                refine ks_ownU (c:=fc) ?_ KB;have h9:=IK.out.fst;have e9:((List.range k).map fun i=>Value.int .u64 (rowF (kF f) (LF f) (j+1) i))=(List.range k).map fun i=>Value.int .u64 (key (frF f o i).toNat):=by
                  apply List.map_congr_left
                  intro i hi;have hi':i<cF f o:=by rw [HC.out];exact List.mem_range.1 hi
                  rw [e1,eL];unfold fst8;rw [lvF_at f o key hi'];rfl
                rw [e9];exact h9
              have STR:Hid (DStep w1 wr p S f m (lOff f (lO f) (j+1))):=by
                have h9:=DStep.after UW.out SBJ.out IK.out.st;have e9:lOff f (lO f) (j+1)=o+8+24*k:=by
                  show lOff f (lO f) j+8+24*cF f (lOff f (lO f) j)=_;rw [ho,HC.out]
                rw [<-e9] at h9;exact h9
              have ESR:Hid (ES wr eo (nF f) (kF f) (vF f) (gF f)):=DJ.out.es.upd IK.out.st.1 E4.out.2.1;have OMR:Hid (lOff f (lO f) (j+1)<=m):=by
                show lOff f (lO f) j+8+24*cF f (lOff f (lO f) j)<=m;rw [ho,HC.out];exact IK.out.om
              have fol:Hid (∀ q,(Value.slice fo k fc).ownBlock=some q->wO.heap.size<=q/\q<wr.heap.size):=fun q hq=>World.ownsRow.lt IK.out.fst q hq
              clear OV DJ IK KB e1 eL;go_wp2_with (at_builtin;refine wpList_append_own_at _ rfl _ _ 104 rfl w5.heap.size 105 jv (.slice none 0 0) 1 24 underlying104 hjv vz vs_ vby rfl (by decide) _ j _ rfl outer.out ⟨wr.heap.size,0,none⟩ 1 1 [.slice ro k rc] rfl rfl (new_val1 wr (.slice ro k rc) 105) (fun u hu=>by simp at hu;subst hu;rfl) (by simp only [maxLen];omega) (by omega) (by simp;omega) ?_)
              intro vC wC r1 r2 r3 r4;obtain ⟨aoC,cC,rfl⟩:=own_form r1;have DN:Hid (DOu w1 w5.heap.size p S f m eo wC (j+1) fo aoC cC):=by
                have lvl:∀ q,(Value.slice lo j lc).ownBlock=some q->w5.heap.size<=q/\q<wO.heap.size:=fun q hq=>by
                  have h9:=OV0.out.outer;exact World.ownsRow.lt h9 q hq
                have kb:∀ q,q<wr.heap.size->(Value.slice lo j lc).ownBlock≠some q->wC.heap[q]?=wr.heap[q]?:=fun q hq hn=>(r2.block q (by simp;omega) (fun e=>hn e.symm)).trans (((Gw.refl wr).alloc _ _).below.block q hq)
                refine ⟨(STR.out.gw ((Gw.refl wr).alloc _ _)).grown r2 (fun q hq=>Nat.le_trans SZ5.out (lvl q hq).1) FZz.out,⟨vals++[.slice ro k rc],?_⟩,?_,fun a ha=>?_,?_,OMR.out,EK.out,by have:=r2.size;simp at this;omega⟩
                · rw [TK.out]
                  refine OwnV.moreU (v:=.slice lo j lc) OV0.out OVW.out SZr rowJ.out S5O ?_ r2 (by simpa using r4)
                  rw [tl];exact r1
                · rw [bN1.out]
                  have h9:=KSJ.out.1;refine ⟨fun h0=>?_,h9.bd⟩
                  obtain ⟨b9,o9,e9,x9,c9⟩:=h9.cells h0;refine ⟨b9,o9,e9,by have:=r2.size;simp at this;omega,fun t ht=>(World.cell?_of_block (a:=⟨b9,o9+t,none⟩) (kb b9 x9 (fun e=>?_))).trans (c9 t ht)⟩
                  have h8:wO.heap.size<=b9:=KSJ.out.2 _ e9;have:=(lvl b9 e).2;omega
                · have h8:=KSJ.out.2 a ha
                  omega
                · refine ⟨fun h0=>?_,ESR.out.bd⟩
                  obtain ⟨b9,o9,e9,x9,c9⟩:=ESR.out.cells h0;have hb9:(Value.slice lo j lc).ownBlock≠some b9:=fun e=>by
                    have h8:b9<w5.heap.size:=EB5.out _ e9;have:=(lvl b9 e).1;omega
                  have eq:∀ t,wC.cell? ⟨b9,t,none⟩=wr.cell? ⟨b9,t,none⟩:=fun t=>World.cell?_of_block (a:=⟨b9,t,none⟩) (kb b9 x9 hb9)
                  exact ⟨b9,o9,e9,by have:=r2.size;simp at this;omega,fun t ht=>⟨(eq _).trans (c9 t ht).1,(eq _).trans (c9 t ht).2.1,(eq _).trans (c9 t ht).2.2⟩⟩
              clear r1 r2 r3 r4;go_wp2_with fail;go_roundg (ht-(j+1))
              case measure=>omega
              case rel=>exact ⟨j+1,fo,aoC,fc,cC,by rw [bN1.out],rfl,by go_num,by omega,Nat.le_refl _,DN⟩
        · have ej:j=ht:=by omega
          subst ej;have LVO:Hid (LvsOK f m):=⟨A3.out,fun l hl=>DJ.out.ok l (by rw [HH.out] at hl;exact hl)⟩
          obtain ⟨_,S9,r9,_⟩:=DJ.out.st;have UO:Hid (Upd p w1 wO):=DJ.out.st.1;have LE:Hid (Calls prog 25 #[.pointer (some ⟨p,0,none⟩)] wO fun e w'=>e=.returned (.int .i64 ((m-lOff f (lO f) j:Nat):Int))/\w'=wO):=docr.left r9
          have up7:=DJ.out.om;have OK7:=(LF_ok BD.out (fun i hi=>(E5.out.bd i hi).1) (hF f) (Nat.le_refl _) LVO.out.2).1
          have OKL:∀ i,i<(LF f).length->∀ j,j<((LF f).getD i []).length->(((LF f).getD i []).getD j sg0).ok:=fun i hi=>OK7 i (by rw [LF_len] at hi;exact hi)
          obtain ⟨vals,OV⟩:=DJ.out.lv;rw [List.take_of_length_le (by rw [LL.out];exact Nat.le_refl _)] at OV
          have VO:VS wO lo (LF f):=by
            rw [<-LL.out] at OV;exact (OV.vsf OKL).vs
          have SH:Short (LF f):=⟨by rw [LF_len];exact MD.out.h1 LVO.out.few,fun i hi=>by
            rw [LF_len] at hi;rw [LF_at hi,lvF_len];exact MD.out.c1 i hi (LVO.out.2 i hi).few⟩
          have OFC:=dc_of eps eo (nF f) ec (kF f) (vF f) (gF f) lo lc (LF f) (by omega) (by omega) n1.out E4.out.2.2.1 E4.out.2.2.2.1 SH wO DJ.out.es VO
          rw [LL.out,HN.out] at OFC;have OFH:Hid (Calls prog 51 #[.slice eo i ec,.int .i64 eps,.slice lo j lc] wO fun ex w'=>OfOutR HDoc wO w' ex eps (kF f) (vF f) (gF f) i (LF f)/\Gw wO w'):=OFC
          clear OFC SH VO OV OK7 OKL r9 DJ;by_cases al:lOff f (lO f) j=m
          · have t1:m-lOff f (lO f) j=0:=by omega
            have AL:Hid (lOff f (lO f) (hF f)=m):=by show _=_;rw [HH.out];exact al
            rw [t1] at LE;clear al up7 t1;go_wp2_with fail;refine LE.out.mono ?_;rintro e wP ⟨rfl,hw⟩;subst hw;go_wp2_with fail;refine OFH.out.mono ?_;rintro e wQ ⟨⟨E,hE,hX⟩,gQ⟩;have GQ:Hid (Gw w wQ):=(GU.out _ UO.out).trans gQ;have SQ:Hid (w.heap.size<=wP.heap.size):=(GU.out _ UO.out).size;have OE:Hid (OfE eps (kF f) (vF f) (gF f) i (LF f) E):=hE;clear gQ hE OFH LE;rcases hX with ⟨e0,rfl⟩ | ⟨e0,pp,SS,rfl,hS,hR⟩
            · have t3:(E != 0)=true:=by simpa using e0
              have NF:Hid (¬ Fit f m):=fun t=>e0 (by
                have:=t.2
                rw [HE.out,HN.out] at this;exact OE.out.one this)
              clear e0;go_wp2_with fail;go_ret2;exact ⟨.inr ⟨NF.out,rfl⟩,GQ.out⟩
            · subst e0
              have FT:Hid (Fit f m):=⟨⟨HD.out,A1.out,EO.out.1,EO.out.2,LVO.out.1,LVO.out.2,AL.out⟩,by rw [HE.out,HN.out];exact OE.out⟩
              have RS:Hid ((∀ q,SS q->w.heap.size<=q)/\HDoc wQ pp SS (numR f 4 8) (kF f) (vF f) (gF f) (nF f) (LF f)):=⟨fun q hq=>Nat.le_trans SQ.out (hS q hq),by rw [HE.out,HN.out];exact hR⟩
              clear hS hR;go_wp2_with fail;go_ret2;exact ⟨.inl ⟨FT.out,pp,SS,rfl,RS.out.1,RS.out.2⟩,GQ.out⟩
          · obtain ⟨mm,hmm⟩:∃ mm,m-lOff f (lO f) j=mm:=⟨_,rfl⟩
            have t0:((mm:Int) != 0)=true:=by simp;omega
            have t1:¬ mm=0:=by omega
            rw [hmm] at LE;have NF:Hid (¬ Fit f m):=fun t=>al (by have:=t.1.all;rw [HH.out] at this;exact this)
            have FIN:Hid (Gw w wO):=GU.out _ UO.out;clear OFH al up7 hmm;go_wp2_with fail;refine LE.out.mono ?_;rintro e wP ⟨rfl,hw⟩;subst hw;go_wp2_with fail;go_ret2;exact ⟨.inr ⟨NF.out,rfl⟩,FIN.out⟩
end Go.Proofs.YtpoohadckhphpaaGreat
namespace Go.Proofs.YtpoohadckhphpaaGreat
open Go.RowKit
theorem BS.ltn {w:World} {ao:Option Addr} {n k:Nat} {f:Nat->Int} (h:BS w ao n f) (hk:k<=n):BS w ao k f :=
  ⟨fun h0=>by
    obtain ⟨b,off,e,hb,hc⟩:=h.cells (by omega)
    exact ⟨b,off,e,hb,fun i hi=>hc i (by omega)⟩,fun i hi=>h.bd i (by omega)⟩
theorem bs_news {w:World} {ao:Option Addr} {n:Nat} {f:Nat->Int} (h:BS w ao n f):∀ y,ao=some y->∀ j u,(bts f n)[j]?=some u->w.cell? (y.add j)=some u:=by
  intro y e j u hu;have hj:j<n:=by
    have:=(List.getElem?_eq_some_iff.1 hu).1
    rw [bts_len] at this;exact this
  obtain ⟨b,off,e',hb,hc⟩:=h.cells (by omega)
  rw [e] at e';cases e';rw [Addr.add_lit];refine (hc j hj).trans ?_;rw [<-bts_at f hj];exact hu
end Go.Proofs.YtpoohadckhphpaaGreat
