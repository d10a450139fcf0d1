/- Layer 16: little writing. -/
import Derived.Deep.CutRange
import Derived.Test.YtemijdhemdhclaaGreatDIOf
set_option linter.unusedVariables false
set_option maxHeartbeats 64000000
set_option maxRecDepth 20000
open Go.Proofs.Tryz
namespace Go.Proofs.YtemijdhemdhclaaGreat
open Go.RowKit
theorem ins_pos {l:List Ent} {e:Ent}:0<(ins Ent.k e l).length:=by
 cases l with
 | nil=>exact Nat.one_pos
 | cons x l =>
  unfold ins;split
  ·simp
  ·split<;>simp
def WrI (HR:HRt) (w u:World) (bq p:Nat) (eps buf keys:Int) (i:Nat):Prop:=∃ F l rs B W live,Tw HR w u p F eps buf keys l rs B W live/\BW l rs B W i/\occ rs*buf.toNat+l.length<=i/\u.heap[bq]?=some (.cells #[.int .i64 eps,.int .i64 buf,.int .i64 keys] 23 (0,0))/\∀ q,F q->bq<q
def WrC (HR:HRt) (w u:World) (bq p wb bS tS:Nat) (eps buf keys:Int) (l:List Ent) (rs:List (Option Rn)) (B W:Int) (live ll:Nat) (i:Nat) (ch:Bool):Prop:=∃ F3 l3 rs3 B3 W3 n3,Tw HR w u p F3 eps buf keys l3 rs3 B3 W3 n3/\(BW l3 rs3 B3 W3 (i+1)/\occ rs3*buf.toNat+l3.length<=i+1/\u.heap[bq]?=some (.cells #[.int .i64 eps,.int .i64 buf,.int .i64 keys] 23 (0,0))/\∀ q,F3 q->bq<q)/\(u.heap[wb]?=some (.cells #[.int .i64 (live:Int),.int .i64 (ll:Int),.int .i64 B,.int .i64 W,.slice (some ⟨bS,0,none⟩) tS tS] 52 (0,0))/\SZ u 0 bS tS rs)/\(W<=W3/\W3-W<=4611686018427387904)/\((ch=false/\B3=B/\W3=W/\rs3=rs/\l3.length=ll)\/(ch=true/\B3=B/\W3=W/\rs3=rs/\0<l3.length)\/(ch=true/\l3=[]/\∃ fr kk:Nat,W3=W+(kk:Nat)/\((kk=0/\B3=B)\/(kk≠0/\B3=B+1))/\WrR eps buf keys l rs rs3 fr kk))
section
variable {HR:HRt} {w u u':World} {bq p wb bS tS:Nat} {F:Nat->Prop} {eps buf keys:Int} {l:List Ent} {rs:List (Option Rn)} {B W:Int} {live ll i n:Nat} {e:Ent}
theorem WrC.same (K:Kp HR) (t:Tw HR w u p F eps buf keys l rs B W live) (bw:BW l rs B W i) (oc:occ rs*buf.toNat+l.length<=i) (hb:u.heap[bq]?=some (.cells #[.int .i64 eps,.int .i64 buf,.int .i64 keys] 23 (0,0))/\∀ q,F q->bq<q) (hx:u.heap[wb]?=some (.cells #[.int .i64 (live:Int),.int .i64 (ll:Int),.int .i64 B,.int .i64 W,.slice (some ⟨bS,0,none⟩) tS tS] 52 (0,0))/\SZ u 0 bS tS rs) (hl:l.length=ll) (g:Gw u u'):WrC HR w u' bq p wb bS tS eps buf keys l rs B W live ll i false :=
 ⟨F,l,rs,B,W,live,t.to K g,⟨bw.mono (Nat.le_succ _),by omega,(g.below.block bq (blkl hb.1)).trans hb.1,hb.2⟩,⟨(g.below.block wb (blkl hx.1)).trans hx.1,hx.2.gw g⟩,by omega,.inl ⟨rfl,rfl,rfl,rfl,hl⟩⟩
theorem WrC.done (K:Kp HR) (cf:CfgOk eps buf keys) (hi:i<=1048575) (t:Tw HR w u p F eps buf keys l rs B W live) (bw:BW l rs B W i) (oc:occ rs*buf.toNat+l.length<=i) (hb:u.heap[bq]?=some (.cells #[.int .i64 eps,.int .i64 buf,.int .i64 keys] 23 (0,0))/\∀ q,F q->bq<q) (hx:u.heap[wb]?=some (.cells #[.int .i64 (live:Int),.int .i64 (ll:Int),.int .i64 B,.int .i64 W,.slice (some ⟨bS,0,none⟩) tS tS] 52 (0,0))/\SZ u 0 bS tS rs/\¬ F wb/\¬ F bS) (c:ChOut HR u u' p F eps buf keys l rs B W e n):WrC HR w u' bq p wb bS tS eps buf keys l rs B W live ll i true:=by
 obtain ⟨F3,l3,rs3,B3,W3,t3,lay,nf,gx3⟩:=t.step c;have bd:=(bw.in (by omega)).1
 have bw4:=lay.bw t.ht.inv.ok;have oc3:=occ_step cf.2.1.1 t.ht.inv.len t.ht.inv.ok (by omega) oc lay
 refine ⟨F3,l3,rs3,B3,W3,n,t3,⟨bw.step (by omega) t.ht.inv.ok lay,oc3,(gx3.block bq (blkl hb.1) (fun x=>by have:=hb.2 bq x;omega)).trans hb.1,fun q hq=>?_⟩,⟨(gx3.block wb (blkl hx.1) hx.2.2.1).trans hx.1,hx.2.1.gx gx3 hx.2.2.2⟩,by omega,?_⟩
 ·rcases nf.1 q hq with x | x
  ·exact hb.2 q x
  ·have:=blkl hb.1;omega
 ·rcases lay with ⟨y1,y2,y3,y4,y5⟩ | ⟨y1,y2,o,kept,rn,tr,ld,y3,y4,y5⟩
  ·exact .inr (.inl ⟨rfl,y4,y5,y3,by rw [y2];exact ins_pos⟩)
  ·have wr_:=lay_writes t.ht.inv cf.2.1.1 cf.2.1.2 bd oc (by omega) y1 tr ld (by have:=t3.ht.inv;rw [y2,y3] at this;exact this)
   refine .inr (.inr ⟨rfl,y2,free rs,kept.length,y5,?_,by rw [y3];exact wr_⟩)
   rw [y4];unfold one15;by_cases k0:kept=[]
   ·exact .inl ⟨by rw [k0];rfl,by rw [if_pos k0];omega⟩
   ·exact .inr ⟨fun x=>k0 (List.eq_nil_of_length_eq_zero x),by rw [if_neg k0]⟩
end
theorem WrI.to {HR:HRt} (K:Kp HR) {w u u':World} {bq p:Nat} {eps buf keys:Int} {i:Nat} (h:WrI HR w u bq p eps buf keys i) (g:Gw u u'):WrI HR w u' bq p eps buf keys i:=by
 obtain ⟨F,l,rs,B,W,n,a,b,c,d,e⟩:=h;exact ⟨F,l,rs,B,W,n,a.to K g,b,c,(g.below.block bq (blkl d)).trans d,e⟩
theorem writes_walk {HR:HRt} (H:RunC HR) (eps buf keys:Int) (ao:Option Addr) (c:Nat) (sl:List (Int×Int×Int)) (hn:sl.length<=1048576) (w:World) (h:OTL w ao sl) :
  Calls prog 5 #[.agg #[.int .i64 eps,.int .i64 buf,.int .i64 keys],.slice ao sl.length c] w fun e w'=>e=.returned (.bool true)/\Gw w w':=by
 have SC:Aside (OTL w ao sl):=h;obtain ⟨n,hln⟩:∃ n,sl.length=n:=⟨_,rfl⟩;have LN:Aside (sl.length=n):=hln;rw [hln] at hn ⊢;clear h hln;have HH:Aside (RunC HR):=H;have SH:Hid (∀ W,Calls prog 8 #[] W fun e w'=>e=.returned (.bool true)/\Gw W w'):=fun W=>shown16 H W
 have RC:Hid (∀ W,Calls prog 10 #[.agg #[.int .i64 eps,.int .i64 buf,.int .i64 keys]] W fun e w'=>e=.returned (.int .i64 (cfgE eps buf keys))/\Gw W w'):=fun W=>rcheck16 eps buf keys W
 have NW:Hid (∀ W,Calls prog 11 #[.agg #[.int .i64 eps,.int .i64 buf,.int .i64 keys]] W fun e w'=>NewT HR W w' e eps buf keys/\Gw W w'):=fun W=>new16 H eps buf keys W
 clear H;obtain ⟨bq,hbq⟩:∃ b,w.heap.size=b:=⟨_,rfl⟩;have BQ:Aside (w.heap.size=bq):=hbq;have B0:Aside (Bxs w [(bq,#[.int .i64 eps,.int .i64 buf,.int .i64 keys],23)] (w.alloc (.cells #[.int .i64 eps,.int .i64 buf,.int .i64 keys] 23))):=by
  have a:=(Bxs.nil (Gw.refl w)).add #[.int .i64 eps,.int .i64 buf,.int .i64 keys] 23;rw [hbq] at a;exact a
 have FC:Aside (∀ W,Bxs w [(bq,#[.int .i64 eps,.int .i64 buf,.int .i64 keys],23)] W->(W.cell? ⟨bq,0,none⟩=some (.int .i64 eps)/\W.cell? ⟨bq,1,none⟩=some (.int .i64 buf)/\W.cell? ⟨bq,2,none⟩=some (.int .i64 keys)/\bq<W.heap.size)):=fun W h=>by
  have x:=h.lie (bq,#[.int .i64 eps,.int .i64 buf,.int .i64 keys],23) (by simp)
  exact ⟨blkc x rfl,blkc x rfl,blkc x rfl,blkl x⟩
 have qn:∀ (p:Nat) (W:World),(binOp .eql 27 (.pointer (some ⟨p,0,none⟩)) (.pointer none)).run prog W=.ok (.bool false) W:=fun _ _=>by kernel_rfl
 clear hbq;go_enter func5,ntmps5;go_wp2_with fail;rw [BQ.out];generalize w.alloc (.cells #[.int .i64 eps,.int .i64 buf,.int .i64 keys] 23)=w1 at B0 ⊢;refine Calls.mono (SH.out w1) ?_;rintro e w2 ⟨rfl,g2⟩;have B2:Aside (Bxs w [(bq,#[.int .i64 eps,.int .i64 buf,.int .i64 keys],23)] w2):=B0.out.gw g2;obtain ⟨c0,c1,c2,cl⟩:=FC.out w2 B2.out;clear g2 B0 SH;go_wp2_with fail;refine Calls.mono (NW.out w2) ?_;rintro e w3 ⟨h3,g3⟩;have B3:Aside (Bxs w [(bq,#[.int .i64 eps,.int .i64 buf,.int .i64 keys],23)] w3):=B2.out.gw g3;clear c0 c1 c2 cl;obtain ⟨c0,c1,c2,cl⟩:=FC.out w3 B3.out;have W2:Aside (w.heap.size<=w2.heap.size/\bq<w2.heap.size):=⟨B2.out.gw0.size,(FC.out w2 B2.out).2.2.2⟩;clear g3 B2 NW;rcases h3 with ⟨cf,rfl⟩ | ⟨cf,p,F,rfl,ht,hF⟩
 ·have ce:cfgE eps buf keys=160:=if_neg cf
  rw [ce] at RC;clear ce cf;go_wp2_with fail;refine Calls.mono (RC.out w3) ?_;rintro e w4 ⟨rfl,g4⟩;have G4:Aside (Gw w w4):=B3.out.gw0.trans g4;clear g4;go_wp2_with fail;go_ret;exact ⟨rfl,G4.out⟩
 have ce:cfgE eps buf keys=0:=if_pos cf;rw [ce] at RC;have T3:Aside (Tw HR w w3 p F eps buf keys [] (List.replicate 40 none) 0 0 0/\∀ q,F q->bq<q):=⟨⟨ht,fun q hq=>Nat.le_trans W2.out.1 (hF q hq),B3.out.gw0⟩,fun q hq=>by have:=hF q hq;have:=W2.out.2;omega⟩
 have CFG:Aside (CfgOk eps buf keys):=cf;clear ce cf ht hF W2;go_wp2_with fail;refine Calls.mono (RC.out w3) ?_;rintro e w4 ⟨rfl,g4⟩;have B4:Aside (Bxs w [(bq,#[.int .i64 eps,.int .i64 buf,.int .i64 keys],23)] w4):=B3.out.gw g4;have T4:Aside (Tw HR w w4 p F eps buf keys [] (List.replicate 40 none) 0 0 0/\∀ q,F q->bq<q):=⟨T3.out.1.to HH.out.kp g4,T3.out.2⟩;clear g4 B3 T3 RC c0 c1 c2 cl;have M5:Aside (WrI HR w w4 bq p eps buf keys 0):=⟨F,[],List.replicate 40 none,0,0,0,T4.out.1,BW.new,by
  have:occ (List.replicate 40 none)=0:=by
   have:=occ_rep 40 []
   rw [List.append_nil] at this;rw [this];rfl
  rw [this];simp,B4.out.lie (bq,#[.int .i64 eps,.int .i64 buf,.int .i64 keys],23) (by simp),T4.out.2⟩
 clear T4 B4;go_wp2_with fail;go_loopg [9] n (fun gg s9 wr=>∃ i:Nat,s9=.int .i64 (i:Int)/\i<=n/\n-i<=gg/\Aside (WrI HR w wr bq p eps buf keys i))
 case atStart=>exact ⟨0,rfl,Nat.zero_le _,by omega,M5⟩
 case round =>
  clear M5;obtain ⟨i,rfl,a1,a2,M⟩:=hrel;obtain ⟨wS,hwS⟩:∃ wx,wx=wr:=⟨_,rfl⟩;subst hwS;by_cases hlt:i<n
  ·have hlt':(i:Int)<(n:Int):=by omega
   obtain ⟨F,l,rs,B,W,live,m0,bw,oc,bqb,fb⟩:=M.out;have gi:sl[i]?=some (sl.getD i (0,0,0)):=by rw [List.getElem?_eq_getElem (by rw [LN.out];exact hlt),List.getD_eq_getElem?_getD,List.getElem?_eq_getElem (by rw [LN.out];exact hlt)];rfl
   obtain ⟨ab,af,rfl,hab,hac⟩:=(SC.out.gw m0.gw).cells (by rw [LN.out];omega)
   obtain ⟨x0,x1,x2⟩:=hac i _ gi;obtain ⟨kb0,kb1,kb2⟩:=SC.out.bd _ (List.mem_of_getElem? gi);generalize sl.getD i (0,0,0)=x at x0 x1 x2 kb0 kb1 kb2;obtain ⟨kn,ky,vl⟩:=x;simp only at x0 x1 x2 kb0 kb1 kb2;have KB0:Aside (-9223372036854775808<=kn/\kn<9223372036854775808):=kb0;have KB:Aside ((0<=ky/\ky<18446744073709551616)/\0<=vl/\vl<18446744073709551616):=⟨kb1,kb2⟩;obtain ⟨ob,hob⟩:∃ x,wS.heap.size=x:=⟨_,rfl⟩;have OBQ:Aside (wS.heap.size=ob):=hob;have TA:Aside (Tw HR w (wS.alloc (.cells #[.int .i64 kn,.int .u64 ky,.int .u64 vl] 38)) p F eps buf keys l rs B W live):=m0.to HH.out.kp ((Gw.refl wS).alloc _ _);have GA:Aside (Gw wS (wS.alloc (.cells #[.int .i64 kn,.int .u64 ky,.int .u64 vl] 38))):=(Gw.refl wS).alloc _ _;have OBA:Aside ((wS.alloc (.cells #[.int .i64 kn,.int .u64 ky,.int .u64 vl] 38)).heap[ob]?=some (.cells #[.int .i64 kn,.int .u64 ky,.int .u64 vl] 38 (0,0))):=by rw [<-hob];exact heap_alloc_new _ _
   have FW:Aside (∀ q,F q->q<ob):=fun q hq=>by have:=m0.ht.lt HH.out.kp q (.inl hq);omega
   have BWI:Aside (BW l rs B W i):=bw;have OCC:Aside (occ rs*buf.toNat+l.length<=i):=oc;have L40:Aside (rs.length=40):=m0.ht.inv.len;have BQS:Aside (wS.heap[bq]?=some (.cells #[.int .i64 eps,.int .i64 buf,.int .i64 keys] 23 (0,0))/\∀ q,F q->bq<q):=⟨bqb,fb⟩;have BD:Aside ((l.length+1+tot rs<=2000000)/\(0<=B/\B<4611686018427387904)/\0<=W/\W<4611686018427387904):=bw.in (by omega)
   obtain ⟨ll,hll⟩:∃ x,l.length=x:=⟨_,rfl⟩;have LL:Aside (l.length=ll):=hll;clear gi hac kb0 kb1 kb2 m0 bw oc bqb fb hob M hll;go_upto_region 12 with fail;rw [OBQ.out];generalize wS.alloc (.cells #[.int .i64 kn,.int .u64 ky,.int .u64 vl] 38)=uA at TA GA OBA ⊢;have ST0:Hid (Calls prog 19 #[.pointer (some ⟨p,0,none⟩)] uA fun e w'=>(∃ b t,e=.returned (.agg #[.int .i64 (live:Int),.int .i64 (ll:Int),.int .i64 B,.int .i64 W,.slice (some ⟨b,0,none⟩) t t])/\SZ w' uA.heap.size b t rs)/\Gw uA w'):=by
    have:=tstats16 HH.out TA.out.ht
    rw [LL.out] at this;exact this
   clear x0 x1 x2 OBQ;go_wp2_with fail;refine Calls.mono ST0.out ?_;rintro e u1 ⟨⟨bS,tS,rfl,sz⟩,g1⟩;obtain ⟨wb,hwb⟩:∃ x,u1.heap.size=x:=⟨_,rfl⟩;have WB:Aside (u1.heap.size=wb):=hwb;have GB:Aside (Gw wS (u1.alloc (.cells #[.int .i64 (live:Int),.int .i64 (ll:Int),.int .i64 B,.int .i64 W,.slice (some ⟨bS,0,none⟩) tS tS] 52))/\Gw uA (u1.alloc (.cells #[.int .i64 (live:Int),.int .i64 (ll:Int),.int .i64 B,.int .i64 W,.slice (some ⟨bS,0,none⟩) tS tS] 52))):=⟨(GA.out.trans g1).alloc _ _,g1.alloc _ _⟩;have X1:Aside ((u1.alloc (.cells #[.int .i64 (live:Int),.int .i64 (ll:Int),.int .i64 B,.int .i64 W,.slice (some ⟨bS,0,none⟩) tS tS] 52)).heap[wb]?=some (.cells #[.int .i64 (live:Int),.int .i64 (ll:Int),.int .i64 B,.int .i64 W,.slice (some ⟨bS,0,none⟩) tS tS] 52 (0,0))/\SZ (u1.alloc (.cells #[.int .i64 (live:Int),.int .i64 (ll:Int),.int .i64 B,.int .i64 W,.slice (some ⟨bS,0,none⟩) tS tS] 52)) 0 bS tS rs/\¬ F wb/\¬ F bS):=by
    have ol:=blkl OBA.out;refine ⟨by rw [<-hwb];exact heap_alloc_new _ _,⟨sz.top,(sz.gw ((Gw.refl u1).alloc _ _)).row,Nat.zero_le _⟩,fun x=>?_,fun x=>?_⟩
    ·have:=FW.out wb x;have:=g1.size;omega
    ·have:=FW.out bS x;have:=sz.new;omega
   clear sz g1 hwb ST0;go_upto_region 13 with fail;rw [WB.out];generalize u1.alloc (.cells #[.int .i64 (live:Int),.int .i64 (ll:Int),.int .i64 B,.int .i64 W,.slice (some ⟨bS,0,none⟩) tS tS] 52)=uB at GB X1 ⊢;have T0:Aside (Tw HR w uB p F eps buf keys l rs B W live):=TA.out.to HH.out.kp GB.out.2;have OB:Aside (uB.heap[ob]?=some (.cells #[.int .i64 kn,.int .u64 ky,.int .u64 vl] 38 (0,0))):=(GB.out.2.below.block ob (blkl OBA.out)).trans OBA.out;have BQ0:Aside (uB.heap[bq]?=some (.cells #[.int .i64 eps,.int .i64 buf,.int .i64 keys] 23 (0,0))/\∀ q,F q->bq<q):=⟨(GB.out.1.below.block bq (blkl BQS.out.1)).trans BQS.out.1,BQS.out.2⟩;have X2:Aside (uB.heap[wb]?=some (.cells #[.int .i64 (live:Int),.int .i64 (ll:Int),.int .i64 B,.int .i64 W,.slice (some ⟨bS,0,none⟩) tS tS] 52 (0,0))/\SZ uB 0 bS tS rs/\¬ F wb/\¬ F bS):=X1;have z0:uB.cell? ⟨ob,0,none⟩=some (.int .i64 kn):=blkc OB.out rfl;have z1:uB.cell? ⟨ob,1,none⟩=some (.int .u64 ky):=blkc OB.out rfl;have z2:uB.cell? ⟨ob,2,none⟩=some (.int .u64 vl):=blkc OB.out rfl;have zl:=blkl OB.out;clear WB TA GA OBA GB X1 BQS OB;go_wp2_with fail;refine (kind16 kn KB0.out.1 KB0.out.2 uB).mono ?_;rintro e ux ⟨rfl,hux⟩;have hux2:=hux.symm;subst hux2;clear hux;go_upto_if 60 with fail;go_cut [12,13] from 45 to 233 (fun s12 s13 wc=>∃ ch:Bool,s12=.bool ch/\Aside (WrC HR w wc bq p wb bS tS eps buf keys l rs B W live ll i ch))
   case first=>as_aux_lemma =>
    by_cases hk:kindV kn<4
    ·have kd:decide (kindV kn<4)=true:=by simpa using hk
     by_cases hno:valE l rs ky=none/\(live:Int)=keys
     ·have PC:Hid (Calls prog 15 #[.pointer (some ⟨p,0,none⟩),.int .u64 ky,.int .u64 vl] uB fun e w'=>e=.returned (.int .i64 161)/\WrC HR w w' bq p wb bS tS eps buf keys l rs B W live ll i false):=(tput16 HH.out T0.out.ht BD.out.1 BD.out.2.1 BD.out.2.2 ky vl KB.out.1 KB.out.2).mono fun e w' hp=>by
       rcases hp with ⟨_,x,y⟩ | ⟨x,_⟩
       ·exact ⟨x,WrC.same HH.out.kp T0.out BWI.out OCC.out BQ0.out ⟨X2.out.1,X2.out.2.1⟩ LL.out y⟩
       ·exact absurd hno x
      clear hno;go_wp2_with fail;refine Calls.mono PC.out ?_;rintro e u3 ⟨rfl,wc3⟩;have WC3:Aside (WrC HR w u3 bq p wb bS tS eps buf keys l rs B W live ll i false):=wc3;clear wc3 PC;go_wp2_with fail;go_meet
      case rel=>exact ⟨false,rfl,WC3⟩
     ·have PC:Hid (Calls prog 15 #[.pointer (some ⟨p,0,none⟩),.int .u64 ky,.int .u64 vl] uB fun e w'=>e=.returned (.int .i64 0)/\WrC HR w w' bq p wb bS tS eps buf keys l rs B W live ll i true):=(tput16 HH.out T0.out.ht BD.out.1 BD.out.2.1 BD.out.2.2 ky vl KB.out.1 KB.out.2).mono fun e w' hp=>by
       rcases hp with ⟨x,_⟩ | ⟨_,x,y⟩
       ·exact absurd x hno
       ·exact ⟨x,WrC.done HH.out.kp CFG.out (by omega) T0.out BWI.out OCC.out BQ0.out X2.out y⟩
      clear hno;go_wp2_with fail;refine Calls.mono PC.out ?_;rintro e u3 ⟨rfl,wc3⟩;have WC3:Aside (WrC HR w u3 bq p wb bS tS eps buf keys l rs B W live ll i true):=wc3;clear wc3 PC;go_wp2_with fail;go_meet
      case rel=>exact ⟨true,rfl,WC3⟩
    ·have kd:decide (kindV kn<4)=false:=by simpa using hk
     have hk4:4<=kindV kn:=by omega
     by_cases hno:valE l rs ky=none
     ·have PC:Hid (Calls prog 17 #[.pointer (some ⟨p,0,none⟩),.int .u64 ky] uB fun e w'=>e=.returned (.bool false)/\WrC HR w w' bq p wb bS tS eps buf keys l rs B W live ll i false):=(tdel16 HH.out T0.out.ht BD.out.1 BD.out.2.1 BD.out.2.2 ky KB.out.1).mono fun e w' hp=>by
       rcases hp with ⟨_,x,y⟩ | ⟨x,_⟩
       ·exact ⟨x,WrC.same HH.out.kp T0.out BWI.out OCC.out BQ0.out ⟨X2.out.1,X2.out.2.1⟩ LL.out y⟩
       ·exact absurd hno x
      clear hno;go_wp2_with fail;refine Calls.mono PC.out ?_;rintro e u3 ⟨rfl,wc3⟩;have WC3:Aside (WrC HR w u3 bq p wb bS tS eps buf keys l rs B W live ll i false):=wc3;clear wc3 PC;go_wp2_with fail;go_meet
      case rel=>exact ⟨false,rfl,WC3⟩
     ·have PC:Hid (Calls prog 17 #[.pointer (some ⟨p,0,none⟩),.int .u64 ky] uB fun e w'=>e=.returned (.bool true)/\WrC HR w w' bq p wb bS tS eps buf keys l rs B W live ll i true):=(tdel16 HH.out T0.out.ht BD.out.1 BD.out.2.1 BD.out.2.2 ky KB.out.1).mono fun e w' hp=>by
       rcases hp with ⟨x,_⟩ | ⟨_,x,_,y⟩
       ·exact absurd x hno
       ·exact ⟨x,WrC.done HH.out.kp CFG.out (by omega) T0.out BWI.out OCC.out BQ0.out X2.out y⟩
      clear hno;go_wp2_with fail;refine Calls.mono PC.out ?_;rintro e u3 ⟨rfl,wc3⟩;have WC3:Aside (WrC HR w u3 bq p wb bS tS eps buf keys l rs B W live ll i true):=wc3;clear wc3 PC;go_wp2_with fail;go_meet
      case rel=>exact ⟨true,rfl,WC3⟩
   case rest=>as_aux_lemma =>
    obtain ⟨u3,hu3⟩:∃ x,x=wc:=⟨_,rfl⟩;subst hu3;obtain ⟨ch,rfl,WC⟩:=hcut;obtain ⟨F3,l3,rs3,B3,W3,n3,t3,wi,xx,r3,rr⟩:=WC.out;have T3:Aside (Tw HR w u3 p F3 eps buf keys l3 rs3 B3 W3 n3):=t3;have WI3:Aside (Tw HR w u3 p F3 eps buf keys l3 rs3 B3 W3 n3/\BW l3 rs3 B3 W3 (i+1)/\occ rs3*buf.toNat+l3.length<=i+1/\(u3.heap[bq]?=some (.cells #[.int .i64 eps,.int .i64 buf,.int .i64 keys] 23 (0,0))/\∀ q,F3 q->bq<q)):=⟨t3,wi.1,wi.2.1,wi.2.2⟩;have X3:Aside (u3.heap[wb]?=some (.cells #[.int .i64 (live:Int),.int .i64 (ll:Int),.int .i64 B,.int .i64 W,.slice (some ⟨bS,0,none⟩) tS tS] 52 (0,0))/\SZ u3 0 bS tS rs):=xx;have L43:Aside (rs3.length=40):=t3.ht.inv.len;obtain ⟨l3n,hl3n⟩:∃ x,l3.length=x:=⟨_,rfl⟩;have LN3:Aside (l3.length=l3n):=hl3n;have RM3:Aside ((l3n:Int)<buf):=by have:=t3.ht.inv.room;rw [hl3n] at this;exact this
    have R3:Aside (W<=W3/\W3-W<=4611686018427387904/\True):=⟨r3.1,r3.2,trivial⟩;have RR:Aside ((ch=false/\B3=B/\W3=W/\rs3=rs/\l3n=ll)\/(ch=true/\B3=B/\W3=W/\rs3=rs/\0<l3n)\/(ch=true/\l3n=0/\∃ fr kk:Nat,W3=W+(kk:Nat)/\((kk=0/\B3=B)\/(kk≠0/\B3=B+1))/\WrR eps buf keys l rs rs3 fr kk)):=by
     rw [hl3n] at rr;rcases rr with x | x | ⟨x1,x2,x3⟩
     ·exact .inl x
     ·exact .inr (.inl x)
     ·exact .inr (.inr ⟨x1,by rw [<-hl3n,x2];rfl,x3⟩)
    clear t3 wi xx r3 rr hl3n WC;have SN:Hid (Calls prog 19 #[.pointer (some ⟨p,0,none⟩)] u3 fun e w'=>(∃ b t,e=.returned (.agg #[.int .i64 (n3:Int),.int .i64 (l3n:Int),.int .i64 B3,.int .i64 W3,.slice (some ⟨b,0,none⟩) t t])/\SZ w' u3.heap.size b t rs3)/\Gw u3 w'):=by
     have:=tstats16 HH.out T3.out.ht
     rw [LN3.out] at this;exact this
    go_wp2_with fail;refine Calls.mono SN.out ?_
    rintro e u4 ⟨⟨bN,tN,rfl,szn⟩,g4⟩;have X4:Aside (u4.heap[wb]?=some (.cells #[.int .i64 (live:Int),.int .i64 (ll:Int),.int .i64 B,.int .i64 W,.slice (some ⟨bS,0,none⟩) tS tS] 52 (0,0))/\SZ u4 0 bS tS rs/\SZ u4 0 bN tN rs3):=⟨(g4.below.block wb (blkl X3.out.1)).trans X3.out.1,X3.out.2.gw g4,⟨szn.top,szn.row,Nat.zero_le _⟩⟩;have T4:Aside (WrI HR w u4 bq p eps buf keys (i+1)):=by
     obtain ⟨a,b,c,d⟩:=WI3.out;exact ⟨F3,l3,rs3,B3,W3,n3,a.to HH.out.kp g4,b,c,(g4.below.block bq (blkl d.1)).trans d.1,d.2⟩
    obtain ⟨nb,hnb⟩:∃ x,u4.heap.size=x:=⟨_,rfl⟩;have NB:Aside (u4.heap.size=nb):=hnb;clear szn g4 SN hnb;go_upto_region 19 with fail;rw [NB.out];have T5:Aside (WrI HR w (u4.alloc (.cells #[.int .i64 (n3:Int),.int .i64 (l3n:Int),.int .i64 B3,.int .i64 W3,.slice (some ⟨bN,0,none⟩) tN tN] 52)) bq p eps buf keys (i+1)):=T4.out.to HH.out.kp ((Gw.refl u4).alloc _ _);have X5:Aside ((u4.alloc (.cells #[.int .i64 (n3:Int),.int .i64 (l3n:Int),.int .i64 B3,.int .i64 W3,.slice (some ⟨bN,0,none⟩) tN tN] 52)).heap[wb]?=some (.cells #[.int .i64 (live:Int),.int .i64 (ll:Int),.int .i64 B,.int .i64 W,.slice (some ⟨bS,0,none⟩) tS tS] 52 (0,0))/\SZ (u4.alloc (.cells #[.int .i64 (n3:Int),.int .i64 (l3n:Int),.int .i64 B3,.int .i64 W3,.slice (some ⟨bN,0,none⟩) tN tN] 52)) 0 bS tS rs/\SZ (u4.alloc (.cells #[.int .i64 (n3:Int),.int .i64 (l3n:Int),.int .i64 B3,.int .i64 W3,.slice (some ⟨bN,0,none⟩) tN tN] 52)) 0 bN tN rs3):=⟨(((Gw.refl u4).alloc _ _).below.block wb (blkl X4.out.1)).trans X4.out.1,X4.out.2.1.gw ((Gw.refl u4).alloc _ _),X4.out.2.2.gw ((Gw.refl u4).alloc _ _)⟩;have N5:Aside ((u4.alloc (.cells #[.int .i64 (n3:Int),.int .i64 (l3n:Int),.int .i64 B3,.int .i64 W3,.slice (some ⟨bN,0,none⟩) tN tN] 52)).heap[nb]?=some (.cells #[.int .i64 (n3:Int),.int .i64 (l3n:Int),.int .i64 B3,.int .i64 W3,.slice (some ⟨bN,0,none⟩) tN tN] 52 (0,0))):=by rw [<-NB.out];exact heap_alloc_new _ _
    generalize u4.alloc (.cells #[.int .i64 (n3:Int),.int .i64 (l3n:Int),.int .i64 B3,.int .i64 W3,.slice (some ⟨bN,0,none⟩) tN tN] 52)=u5 at T5 X5 N5 ⊢;clear T4 X4 NB;have s1:u5.cell? ⟨wb,1,none⟩=some (.int .i64 (ll:Int)):=blkc X5.out.1 rfl;have s2:u5.cell? ⟨wb,2,none⟩=some (.int .i64 B):=blkc X5.out.1 rfl;have s3:u5.cell? ⟨wb,3,none⟩=some (.int .i64 W):=blkc X5.out.1 rfl;have s4:u5.cell? ⟨wb,4,none⟩=some (.slice (some ⟨bS,0,none⟩) tS tS):=blkc X5.out.1 rfl;have sl_:=blkl X5.out.1;have n1:u5.cell? ⟨nb,1,none⟩=some (.int .i64 (l3n:Int)):=blkc N5.out rfl;have n2:u5.cell? ⟨nb,2,none⟩=some (.int .i64 B3):=blkc N5.out rfl;have n3_:u5.cell? ⟨nb,3,none⟩=some (.int .i64 W3):=blkc N5.out rfl;have n4:u5.cell? ⟨nb,4,none⟩=some (.slice (some ⟨bN,0,none⟩) tN tN):=blkc N5.out rfl;have nl_:=blkl N5.out;have q1:u5.cell? ⟨bq,1,none⟩=some (.int .i64 buf):=by
     obtain ⟨F9,l9,rs9,B9,W9,n9,a,b,c,d,e⟩:=T5.out;exact blkc d rfl
    have q2:u5.cell? ⟨bq,2,none⟩=some (.int .i64 keys):=by
     obtain ⟨F9,l9,rs9,B9,W9,n9,a,b,c,d,e⟩:=T5.out;exact blkc d rfl
    have ql:bq<u5.heap.size:=by
     obtain ⟨F9,l9,rs9,B9,W9,n9,a,b,c,d,e⟩:=T5.out;exact blkl d
    obtain ⟨wd,hwd⟩:∃ x:Nat,W3-W=(x:Int):=⟨(W3-W).toNat,by have:=R3.out.1;omega⟩
    have ww:IntKind.i64.wrap (W3-W)=(wd:Int):=by rw [IntKind.wrap_i64];have:=R3.out.2.1;omega
    have WD:Aside (W3-W=(wd:Int)):=hwd;clear hwd;rcases RR.out with ⟨rfl,hB,hW,hrs,hch⟩ | ⟨rfl,hB,hW,hrs,hch⟩ | ⟨rfl,hl0,fr,kk,hk,hb,wr_⟩
    ·as_aux_lemma =>
     have wd0:wd=0:=by have:=WD.out;omega
     subst wd0;have SI:Hid (Calls prog 20 #[.slice (some ⟨bS,0,none⟩) tS tS,.slice (some ⟨bN,0,none⟩) tN tN] u5 fun e w'=>e=.returned (.bool true)/\Gw u5 w'):=by
      have x:=X5.out.2;rw [hrs] at x;exact sameInts16 (fun k=>rfl) (x.1.top.one x.2.top) L40.out u5 x.1 x.2
     have r1:¬ buf<=(l3n:Int):=by have:=RM3.out;omega
     have r2:¬ (l3n:Int)<0:=by omega
     have r3:¬ ((0:Nat):Int)<0:=by omega
     have hch2:l3n=ll:=hch;have K5:Aside (∀ u6,Gw u5 u6->(u6.cell? ⟨wb,1,none⟩=some (.int .i64 (ll:Int))/\u6.cell? ⟨wb,2,none⟩=some (.int .i64 B)/\wb<u6.heap.size)/\(u6.cell? ⟨nb,1,none⟩=some (.int .i64 (l3n:Int))/\u6.cell? ⟨nb,2,none⟩=some (.int .i64 B3)/\nb<u6.heap.size)):=fun u6 g=>by
      have x:=(g.below.block wb (blkl X5.out.1)).trans X5.out.1;have y:=(g.below.block nb (blkl N5.out)).trans N5.out;exact ⟨⟨blkc x rfl,blkc x rfl,blkl x⟩,blkc y rfl,blkc y rfl,blkl y⟩
     clear hW hrs hch X5 N5 R3 WD RR;subst hB;subst hch2;go_wp2_with fail;refine Calls.mono SI.out ?_;rintro e u6 ⟨rfl,g6⟩;have T6:Aside (WrI HR w u6 bq p eps buf keys (i+1)):=T5.out.to HH.out.kp g6;clear s1 s2 s3 s4 sl_ n1 n2 n3_ n4 nl_ q1 q2 ql;obtain ⟨⟨s1,s2,sl_⟩,n1,n2,nl_⟩:=K5.out u6 g6;clear g6 SI K5 T5;go_wp2_with fail;go_roundg (n-(i+1))
     case measure=>omega
     case rel=>exact ⟨i+1,by go_num,by omega,Nat.le_refl _,T6⟩
    ·as_aux_lemma =>
     have wd0:wd=0:=by have:=WD.out;omega
     subst wd0;have SI:Hid (Calls prog 20 #[.slice (some ⟨bS,0,none⟩) tS tS,.slice (some ⟨bN,0,none⟩) tN tN] u5 fun e w'=>e=.returned (.bool true)/\Gw u5 w'):=by
      have x:=X5.out.2;rw [hrs] at x;exact sameInts16 (fun k=>rfl) (x.1.top.one x.2.top) L40.out u5 x.1 x.2
     have r1:¬ buf<=(l3n:Int):=by have:=RM3.out;omega
     have r2:¬ (l3n:Int)<0:=by omega
     have r3:¬ ((0:Nat):Int)<0:=by omega
     have lp:(0:Int)<(l3n:Int):=by omega
     have K5:Aside (∀ u6,Gw u5 u6->(u6.cell? ⟨wb,1,none⟩=some (.int .i64 (ll:Int))/\u6.cell? ⟨wb,2,none⟩=some (.int .i64 B)/\wb<u6.heap.size)/\(u6.cell? ⟨nb,1,none⟩=some (.int .i64 (l3n:Int))/\u6.cell? ⟨nb,2,none⟩=some (.int .i64 B3)/\nb<u6.heap.size)):=fun u6 g=>by
      have x:=(g.below.block wb (blkl X5.out.1)).trans X5.out.1;have y:=(g.below.block nb (blkl N5.out)).trans N5.out;exact ⟨⟨blkc x rfl,blkc x rfl,blkl x⟩,blkc y rfl,blkc y rfl,blkl y⟩
     clear hW hrs hch X5 N5 R3 WD RR;subst hB;clear r2;go_wp2_with fail;refine Calls.mono SI.out ?_;rintro e u6 ⟨rfl,g6⟩;have T6:Aside (WrI HR w u6 bq p eps buf keys (i+1)):=T5.out.to HH.out.kp g6;clear s1 s2 s3 s4 sl_ n1 n2 n3_ n4 nl_ q1 q2 ql;obtain ⟨⟨s1,s2,sl_⟩,n1,n2,nl_⟩:=K5.out u6 g6;clear g6 SI K5 T5;go_wp2_with fail;go_roundg (n-(i+1))
     case measure=>omega
     case rel=>exact ⟨i+1,by go_num,by omega,Nat.le_refl _,T6⟩
    ·as_aux_lemma =>
     have WR:Aside (WrR eps buf keys l rs rs3 fr kk):=wr_;have wk:wd=kk:=by have:=WD.out;omega
     subst wk;have l30:l3n=0:=hl0;subst l30;have r1:¬ buf<=((0:Nat):Int):=by have:=CFG.out.2.1;omega
     have r1':¬ buf<=0:=by have:=CFG.out.2.1;omega
     have f22:=wr_.j40;have HB_:Aside ((wd=0/\B3=B)\/(wd≠0/\B3=B+1)):=hb;have TT:tS<=40/\tN<=40:=⟨X5.out.2.1.le L40.out,X5.out.2.2.le L43.out⟩;have ZS:Hid (∀ (k:Nat) (u6:World),Gw u5 u6->k<=2000000->Calls prog 21 #[.slice (some ⟨bS,0,none⟩) tS tS,.int .i64 (k:Int)] u6 fun e w'=>e=.returned (.int .i64 (szF rs k:Int))/\w'=u6):=fun k u6 g hk=>size16 k hk L40.out u6 (X5.out.2.1.gw g)
     have ZN:Hid (∀ (k:Nat) (u6:World),Gw u5 u6->k<=2000000->Calls prog 21 #[.slice (some ⟨bN,0,none⟩) tN tN,.int .i64 (k:Int)] u6 fun e w'=>e=.returned (.int .i64 (szF rs3 k:Int))/\w'=u6):=fun k u6 g hk=>size16 k hk L43.out u6 (X5.out.2.2.gw g)
     clear hl0 hk hb wr_ X5 N5 R3 RR;go_wp2_with fail;go_loopg [17] (fr+1) (fun gg s17 wr=>∃ x:Nat,s17=.int .i64 (x:Int)/\x<=fr/\fr-x<gg/\wr=u5)
     case atStart=>exact ⟨0,rfl,Nat.zero_le _,by omega,rfl⟩
     case round=>as_aux_lemma =>
      obtain ⟨x,rfl,b1,b2,hw⟩:=hrel;subst hw;obtain ⟨u5,hu5⟩:∃ u,u=wr:=⟨_,rfl⟩;subst hu5;have CX:=ZS.out x u5 (Gw.refl _) (by omega)
      by_cases xf:x<fr
      ·have px:=WR.out.up x xf
       have t0:(0:Int)<(szF rs x:Int):=by omega
       generalize szF rs x=sx at CX t0 px;go_wp2_with fail;refine Calls.mono CX ?_;rintro e ux ⟨rfl,hux⟩;have hux2:=hux.symm;subst hux2;clear hux CX px;go_wp2_with fail;go_roundg (fr-x)
       case measure=>omega
       case rel=>exact ⟨x+1,by go_num,by omega,by omega,rfl⟩
      ·have xe:x=fr:=by omega
       subst xe;rw [WR.out.no] at CX;have fz:((0:Nat):Int)=0:=rfl;rw [fz] at CX;go_wp2_with fail;refine Calls.mono CX ?_;rintro e ux ⟨rfl,hux⟩;have hux2:=hux.symm;subst hux2;clear hux CX xf;go_wp2_with fail;go_loopg [18,19] (x+1) (fun gg s18 s19 wr=>∃ (y:Nat) (m:Int),s18=.int .i64 m/\s19=.int .i64 (y:Int)/\m=buf*2^y/\y<=x/\x-y<gg/\m<=8589934592/\wr=u5)
       case atStart=>exact ⟨0,buf,rfl,rfl,by simp,Nat.zero_le _,by omega,by have:=CFG.out.2.1;omega,rfl⟩
       case round=>as_aux_lemma =>
        obtain ⟨y,m,rfl,rfl,hm,d1,d2,d3,hw⟩:=hrel;subst hw;obtain ⟨u5,hu5⟩:∃ u,u=wr:=⟨_,rfl⟩;subst hu5;have MP_:Aside (m=buf*2^y):=hm;have m0:0<m:=by rw [hm];exact Int.mul_pos (by have:=CFG.out.2.1;omega) (Int.pow_pos (by decide))
        clear hm;by_cases go:y<x
        ·have g1:(y:Int)<(x:Int):=by omega
         have g2:m<=4294967296:=by have:=WR.out.room y go;rw [<-MP_.out] at this;omega
         have wm:IntKind.i64.wrap (2*m)=2*m:=by rw [IntKind.wrap_i64];omega
         have M2:Aside (2*m=buf*2^(y+1)):=by
          have e:buf*2^(y+1)=2*(buf*2^y):=by rw [Int.pow_succ,<-Int.mul_assoc,Int.mul_comm]
          show _=_;rw [e,MP_.out]
         clear MP_;go_wp2_with fail;go_roundg (x-y)
         case measure=>omega
         case rel=>exact ⟨y+1,2*m,by first | rfl | rw [wm],by go_num,M2.out,by omega,by omega,by omega,rfl⟩
        ·have yx:y=x:=by omega
         subst yx;have KM:Aside ((wd:Int)<=m):=by
          have k1:=WR.out.most;show _<=_;rw [MP_.out];exact k1.1
         have CN:=ZN.out y u5 (Gw.refl _) (by omega)
         rw [WR.out.is] at CN;have km:=KM.out;have c1:¬ m<(wd:Int):=by omega
         have ks:=WR.out.small;have wk2:IntKind.i64.wrap (2*keys)=2*keys:=by rw [IntKind.wrap_i64];have:=CFG.out.2.2.1;omega
         have c2:¬ 2*keys<(wd:Int):=by omega
         have kf:=WR.out.full;rw [LL.out] at kf;have llb:(ll:Int)<=2000000:=by have:=BD.out.1;rw [LL.out] at this;omega
         have wl:IntKind.i64.wrap ((ll:Int)+1)=(ll:Int)+1:=by rw [IntKind.wrap_i64];omega
         have c3:¬ (ll:Int)+1<buf:=by omega
         have wB:IntKind.i64.wrap (B+1)=B+1:=by rw [IntKind.wrap_i64];have:=BD.out.2.1;omega
         clear go MP_ KM km ks kf m0;have g0:¬ (y:Int)<(y:Int):=by omega
         go_wp2_with fail;refine Calls.mono CN ?_
         rintro e ux ⟨rfl,hux⟩;have hux2:=hux.symm;subst hux2;clear hux CN;go_upto_region 36 with fail;go_cut [193] from 45 to 233 (fun s193 wc=>s193=.bool false/\wc=u5)
         case first=>as_aux_lemma =>
          rcases HB_.out with ⟨hw0,hb0⟩ | ⟨hw0,hb0⟩
          ·subst hb0
           have w0:wd=0:=hw0;subst w0;have nb1:¬ B3=B3+1:=by omega
           go_wp2_with fail;go_meet
           case rel=>exact ⟨rfl,rfl⟩
          ·subst hb0
           have nw:¬ wd=0:=hw0;go_wp2_with fail;go_meet
           case rel=>exact ⟨rfl,rfl⟩
         case rest=>as_aux_lemma =>
          obtain ⟨rfl,h5'⟩:=hcut;have h5:u5=wc:=h5'.symm;subst h5;go_wp2_with fail;go_loopg [20] 42 (fun gg s20 wr=>∃ k:Nat,s20=.int .i64 (k:Int)/\k<=40/\40-k<gg/\Aside (Gw u5 wr))
          case atStart=>exact ⟨0,rfl,by omega,by omega,(show Aside _ from Gw.refl u5)⟩
          case round=>as_aux_lemma =>
           obtain ⟨k,rfl,e1,e2,G⟩:=hrel;obtain ⟨u6,hu6⟩:∃ u,u=wr:=⟨_,rfl⟩;subst hu6;have v4:u6.cell? ⟨wb,4,none⟩=some (.slice (some ⟨bS,0,none⟩) tS tS):=(G.out.cell _ _ sl_).trans s4;have m4:u6.cell? ⟨nb,4,none⟩=some (.slice (some ⟨bN,0,none⟩) tN tN):=(G.out.cell _ _ nl_).trans n4;have vl_:wb<u6.heap.size:=Nat.lt_of_lt_of_le sl_ G.out.size;have ml_:nb<u6.heap.size:=Nat.lt_of_lt_of_le nl_ G.out.size;clear s1 s2 s3 s4 n1 n2 n3_ n4;by_cases kS:k<tS
           ·have k1:(k:Int)<(tS:Int):=by omega
            rcases Nat.lt_trichotomy k y with ky_ | ky_ | ky_
            ·as_aux_lemma =>
             have z:∀ nn,Calls prog 21 #[.slice (some ⟨bN,0,none⟩) tN tN,.int .i64 (k:Int)] (u6.drewN nn) fun e w'=>e=.returned (.int .i64 0)/\w'=u6.drewN nn:=fun nn=>by
              have:=ZN.out k (u6.drewN nn) (G.out.drewN nn) (by omega)
              rw [WR.out.below k ky_] at this;exact this
             have t1:(k:Int)<(y:Int):=by omega
             have t2:¬ (y:Int)<(k:Int):=by omega
             have t3:¬ y<k:=by omega
             go_wp2_with fail;go_quiet (first | (go_at_call_of 21 (Value.slice (some ⟨bN,0,none⟩) tN tN);exact Calls.quiet_of_same (z _)))
             go_wp2_with fail;go_roundg (40-k)
             case measure=>omega
             case rel=>exact ⟨k+1,by go_num,by omega,by omega,(show Aside _ from G.out.drewN _)⟩
            ·as_aux_lemma =>
             have t1:¬ (k:Int)<(y:Int):=by omega
             have t2:¬ (y:Int)<(k:Int):=by omega
             have t3:¬ y<k:=by omega
             have t4:¬ k<y:=by omega
             go_wp2_with fail;go_quiet (fail)
             go_wp2_with fail;go_roundg (40-k)
             case measure=>omega
             case rel=>exact ⟨k+1,by go_num,by omega,by omega,(show Aside _ from G.out.drewN _)⟩
            ·as_aux_lemma =>
             have z:∀ nn,Calls prog 21 #[.slice (some ⟨bN,0,none⟩) tN tN,.int .i64 (k:Int)] (u6.drewN nn) fun e w'=>e=.returned (.int .i64 (szF rs k:Int))/\w'=u6.drewN nn:=fun nn=>by
              have:=ZN.out k (u6.drewN nn) (G.out.drewN nn) (by omega)
              rw [WR.out.above k ky_] at this;exact this
             have zs:∀ nn,Calls prog 21 #[.slice (some ⟨bS,0,none⟩) tS tS,.int .i64 (k:Int)] (u6.drewN nn) fun e w'=>e=.returned (.int .i64 (szF rs k:Int))/\w'=u6.drewN nn:=fun nn=>ZS.out k (u6.drewN nn) (G.out.drewN nn) (by omega)
             generalize szF rs k=sz_ at z zs;have t1:¬ (k:Int)<(y:Int):=by omega
             have t2:(y:Int)<(k:Int):=by omega
             have t4:¬ k<y:=by omega
             go_wp2_with fail;go_quiet (first | (go_at_call_of 21 (Value.slice (some ⟨bN,0,none⟩) tN tN);exact Calls.quiet_of_same (z _)) | (go_at_call_of 21 (Value.slice (some ⟨bS,0,none⟩) tS tS);exact Calls.quiet_of_same (zs _)))
             go_wp2_with fail;go_roundg (40-k)
             case measure=>omega
             case rel=>exact ⟨k+1,by go_num,by omega,by omega,(show Aside _ from G.out.drewN _)⟩
           ·by_cases kN:k<tN
            ·have k1:¬ (k:Int)<(tS:Int):=by omega
             have k2:(k:Int)<(tN:Int):=by omega
             rcases Nat.lt_trichotomy k y with ky_ | ky_ | ky_
             ·as_aux_lemma =>
              have z:∀ nn,Calls prog 21 #[.slice (some ⟨bN,0,none⟩) tN tN,.int .i64 (k:Int)] (u6.drewN nn) fun e w'=>e=.returned (.int .i64 0)/\w'=u6.drewN nn:=fun nn=>by
               have:=ZN.out k (u6.drewN nn) (G.out.drewN nn) (by omega)
               rw [WR.out.below k ky_] at this;exact this
              have t1:(k:Int)<(y:Int):=by omega
              have t2:¬ (y:Int)<(k:Int):=by omega
              have t3:¬ y<k:=by omega
              go_wp2_with fail;go_quiet (first | (go_at_call_of 21 (Value.slice (some ⟨bN,0,none⟩) tN tN);exact Calls.quiet_of_same (z _)))
              go_wp2_with fail;go_roundg (40-k)
              case measure=>omega
              case rel=>exact ⟨k+1,by go_num,by omega,by omega,(show Aside _ from G.out.drewN _)⟩
             ·as_aux_lemma =>
              have t1:¬ (k:Int)<(y:Int):=by omega
              have t2:¬ (y:Int)<(k:Int):=by omega
              have t3:¬ y<k:=by omega
              have t4:¬ k<y:=by omega
              go_wp2_with fail;go_quiet (fail)
              go_wp2_with fail;go_roundg (40-k)
              case measure=>omega
              case rel=>exact ⟨k+1,by go_num,by omega,by omega,(show Aside _ from G.out.drewN _)⟩
             ·as_aux_lemma =>
              have z:∀ nn,Calls prog 21 #[.slice (some ⟨bN,0,none⟩) tN tN,.int .i64 (k:Int)] (u6.drewN nn) fun e w'=>e=.returned (.int .i64 (szF rs k:Int))/\w'=u6.drewN nn:=fun nn=>by
               have:=ZN.out k (u6.drewN nn) (G.out.drewN nn) (by omega)
               rw [WR.out.above k ky_] at this;exact this
              have zs:∀ nn,Calls prog 21 #[.slice (some ⟨bS,0,none⟩) tS tS,.int .i64 (k:Int)] (u6.drewN nn) fun e w'=>e=.returned (.int .i64 (szF rs k:Int))/\w'=u6.drewN nn:=fun nn=>ZS.out k (u6.drewN nn) (G.out.drewN nn) (by omega)
              generalize szF rs k=sz_ at z zs;have t1:¬ (k:Int)<(y:Int):=by omega
              have t2:(y:Int)<(k:Int):=by omega
              have t4:¬ k<y:=by omega
              go_wp2_with fail;go_quiet (first | (go_at_call_of 21 (Value.slice (some ⟨bN,0,none⟩) tN tN);exact Calls.quiet_of_same (z _)) | (go_at_call_of 21 (Value.slice (some ⟨bS,0,none⟩) tS tS);exact Calls.quiet_of_same (zs _)))
              go_wp2_with fail;go_roundg (40-k)
              case measure=>omega
              case rel=>exact ⟨k+1,by go_num,by omega,by omega,(show Aside _ from G.out.drewN _)⟩
            ·have T9:Aside (WrI HR w u6 bq p eps buf keys (i+1)):=T5.out.to HH.out.kp G.out
             go_wp2_with fail;go_roundg (n-(i+1))
             case measure=>omega
             case rel=>exact ⟨i+1,by go_num,by omega,Nat.le_refl _,T9⟩
  ·have RES:Aside (Gw w wS):=by
    obtain ⟨F,l,rs,B,W,live,m0,_⟩:=M.out;exact m0.gw
   go_wp2_with fail;go_ret
   exact ⟨rfl,RES.out⟩
end Go.Proofs.YtemijdhemdhclaaGreat
