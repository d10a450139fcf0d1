/- Package tower: what it tells of itself: Config, Buffer, Runs, Stats, Clone. -/
import Derived.BigQuiet
import Derived.Deep.QuietTactic
import Derived.Test.YtjhaiiegdnamcabGreatGITow
namespace Go.Proofs.YtjhaiiegdnamcabGreat
open Go.RowKit
set_option linter.unusedVariables false
theorem HT.made {HR:HRt} (K:Kp HR) {w:World} {pb pc:Nat} {Sb:Nat→Prop} {eps buf keys:Int} {l:List Ent} {rs:List (Option Rn)} {B W_:Int} {live:Nat} (h:HS HR w pb Sb pc eps buf l rs B W_) (inv:TInv eps buf keys l rs live) (cf:CfgOk eps buf keys):HT HR (w.alloc (.cells (twA eps buf keys pb pc live) 102)) w.heap.size (fun q=>q=w.heap.size∨q=pc∨Sb q) eps buf keys l rs B W_ live:=by
 refine ⟨⟨pb,Sb,pc,heap_alloc_new w _,h.gw K ((Gw.refl w).alloc _ _),fun e=>?_,fun x=>?_,fun r hr x=>?_,fun q=>Iff.rfl⟩,inv,cf⟩
 ·have:=h.lt K pc (.inr (.inl rfl));omega
 ·have:=h.lt K _ (.inl x);omega
 ·have:=h.lt K _ (.inr (.inr ⟨r,hr,x⟩));omega
set_option maxRecDepth 10000 in
set_option maxHeartbeats 2000000 in
theorem tbuf16 {HR:HRt} {w:World} {p:Nat} {F:Nat→Prop} {eps buf keys:Int} {l:List Ent} {rs:List (Option Rn)} {B W_:Int} {live:Nat} (h:HT HR w p F eps buf keys l rs B W_ live) (hn:l.length≤4000000) :
  Calls Tryz.prog 12 #[.pointer (some ⟨p,0,none⟩)] w fun e w'=>(∃ bo c,e=.returned (.slice bo l.length c)∧EO w' w.heap.size (.slice bo l.length c) l)∧Gw w w':=by
 obtain ⟨pb,Sb,pc,h1,h2,h3,h4,h5,h6⟩:=h.lies
 obtain ⟨_,c3,c4,_,_,pl⟩:=HT.cells (HR:=HR) (F:=F) (l:=l) (rs:=rs) (B:=B) (W_:=W_) h1
 have LI:Hid (Calls Tryz.prog 43 #[.pointer (some ⟨pb,0,none⟩)] w fun e w'=>(∃ bo c,e=.returned (.slice bo l.length c)∧EO w' w.heap.size (.slice bo l.length c) l)∧Gw w w'):=(list14 pb Sb buf l hn w h2.hb).mono fun e w' ⟨⟨v,a,b⟩,g⟩=>by
  obtain ⟨bo,c,ev,_⟩:=eo_shape b
  subst ev
  exact ⟨⟨bo,c,a,b⟩,g⟩
 have pbl:=h2.hb.lt pb h2.hb.own
 generalize l.length=n at LI ⊢
 clear h h1 h2 h3 h4 h5 h6
 go_enter Tryz.func12,Tryz.ntmps12
 go_wp2_with fail
 refine Calls.mono LI.out ?_
 rintro e w1 ⟨⟨bo,c,rfl,eo⟩,gg⟩
 have RES:Hid (EO w1 w.heap.size (.slice bo n c) l∧Gw w w1):=⟨eo,gg⟩
 clear eo gg LI
 go_wp2_with fail
 go_ret
 exact ⟨⟨bo,c,rfl,RES.out.1⟩,RES.out.2⟩
set_option maxRecDepth 10000 in
set_option maxHeartbeats 2000000 in
theorem truns16 {HR:HRt} {w:World} {p:Nat} {F:Nat→Prop} {eps buf keys:Int} {l:List Ent} {rs:List (Option Rn)} {B W_:Int} {live:Nat} (h:HT HR w p F eps buf keys l rs B W_ live) :
  Calls Tryz.prog 13 #[.pointer (some ⟨p,0,none⟩)] w fun e w'=>(∃ (t b c:Nat),e=.returned (.slice (some ⟨b,0,none⟩) t c)∧TopR rs t∧RO w' w.heap.size (.slice (some ⟨b,0,none⟩) t c) (rs.take t))∧Gw w w':=by
 obtain ⟨pb,Sb,pc,h1,h2,h3,h4,h5,h6⟩:=h.lies
 obtain ⟨_,c3,c4,_,_,pl⟩:=HT.cells (HR:=HR) (F:=F) (l:=l) (rs:=rs) (B:=B) (W_:=W_) h1
 have LI:Hid (Calls Tryz.prog 30 #[.pointer (some ⟨pc,0,none⟩)] w fun e w'=>(∃ (t b c:Nat),e=.returned (.slice (some ⟨b,0,none⟩) t c)∧TopR rs t∧RO w' w.heap.size (.slice (some ⟨b,0,none⟩) t c) (rs.take t))∧Gw w w'):=runs15 h2.hc
 have pcl:=h2.hc.lt
 clear h h1 h2 h3 h4 h5 h6
 go_enter Tryz.func13,Tryz.ntmps13
 go_wp2_with fail
 refine Calls.mono LI.out ?_
 rintro e w1 ⟨⟨t,b,c,rfl,a,d⟩,gg⟩
 have RES:Hid (TopR rs t∧RO w1 w.heap.size (.slice (some ⟨b,0,none⟩) t c) (rs.take t)∧Gw w w1):=⟨a,d,gg⟩
 clear a d gg LI
 go_wp2_with fail
 go_ret
 exact ⟨⟨t,b,c,rfl,RES.out.1,RES.out.2.1⟩,RES.out.2.2⟩
structure SZ (w:World) (base b t:Nat) (rs:List (Option Rn)):Prop where
 top:TopR rs t
 row:w.rowIs b 3 t (fun i=>.int .i64 (sizeO (rs.getD i none):Int))
 new:base≤b
def statV (live len:Nat) (B W:Int) (b t:Nat):Value:=.agg #[.int .i64 (live:Int), .int .i64 (len:Int), .int .i64 B, .int .i64 W, .slice (some ⟨b,0,none⟩) t t]
set_option maxRecDepth 20000 in
set_option maxHeartbeats 4000000 in
theorem tstats16 {HR:HRt} (H:RunC HR) {w:World} {p:Nat} {F:Nat→Prop} {eps buf keys:Int} {l:List Ent} {rs:List (Option Rn)} {B W_:Int} {live:Nat} (h:HT HR w p F eps buf keys l rs B W_ live) :
  Calls Tryz.prog 14 #[.pointer (some ⟨p,0,none⟩)] w fun e w'=>(∃ b t,e=.returned (statV live l.length B W_ b t)∧SZ w' w.heap.size b t rs)∧Gw w w':=by
 have HH:Aside (RunC HR):=H
 obtain ⟨pb,Sb,pc,h1,h2,h3,h4,h5,h6⟩:=h.lies
 have BL:Aside (w.heap[p]?=some (.cells (twA eps buf keys pb pc live) 102 (0,0))):=h1
 have LE:Hid (∀ W,Gw w W→Calls Tryz.prog 44 #[.pointer (some ⟨pb,0,none⟩)] W fun e w'=>e=.returned (.int .i64 (l.length:Int))∧Gw W w'):=fun W gg=>len14 pb Sb buf l W (h2.hb.gw gg)
 have BU:Hid (∀ W,Gw w W→Calls Tryz.prog 45 #[.pointer (some ⟨pc,0,none⟩)] W fun e w'=>e=.returned (.int .i64 B)∧w'=W):=fun W gg=>builds15 (h2.hc.gw H.kp gg)
 have WR:Hid (∀ W,Gw w W→Calls Tryz.prog 46 #[.pointer (some ⟨pc,0,none⟩)] W fun e w'=>e=.returned (.int .i64 W_)∧w'=W):=fun W gg=>written15 (h2.hc.gw H.kp gg)
 have SI:Hid (∀ W,Gw w W→Calls Tryz.prog 47 #[.pointer (some ⟨pc,0,none⟩)] W fun e w'=>(∃ (t b:Nat),e=.returned (.slice (some ⟨b,0,none⟩) t t)∧TopR rs t∧w'.rowIs b 3 t (fun i=>.int .i64 (sizeO (rs.getD i none):Int))∧W.heap.size≤b)∧Gw W w'):=fun W gg=>sizes15 H (h2.hc.gw H.kp gg)
 have pbl:=h2.hb.lt pb h2.hb.own
 have pcl:=h2.hc.lt
 clear h h1 h2 h3 h4 h5 h6 H
 obtain ⟨bq,hbq⟩:∃ b,w.heap.size=b:=⟨_,rfl⟩
 have BQ:Aside (w.heap.size=bq):=hbq
 obtain ⟨ln,hln⟩:∃ n,l.length=n:=⟨_,rfl⟩
 rw [hln] at LE ⊢
 have B0:Aside (Bxs w [(bq,#[.int .i64 0, .int .i64 0, .int .i64 0, .int .i64 0, .slice none 0 0],42)] (w.alloc (.cells #[.int .i64 0, .int .i64 0, .int .i64 0, .int .i64 0, .slice none 0 0] 42))):=by
  have a:=(Bxs.nil (Gw.refl w)).add #[.int .i64 0, .int .i64 0, .int .i64 0, .int .i64 0, .slice none 0 0] 42
  rw [hbq] at a
  exact a
 clear hbq hln
 go_enter Tryz.func14,Tryz.ntmps14
 go_wp2_with fail
 rw [BQ.out]
 generalize w.alloc (.cells #[.int .i64 0, .int .i64 0, .int .i64 0, .int .i64 0, .slice none 0 0] 42)=w1 at B0 ⊢
 have G0:Hid (Gw w w1):=B0.out.gw0
 have L2:Hid (∀ w',Gw w1 w'→w'.heap[bq]?=some (.cells #[.int .i64 0, .int .i64 0, .int .i64 0, .int .i64 0, .slice none 0 0] 42 (0,0))):=fun w' gg=>(B0.out.gw gg).lie (bq,#[.int .i64 0, .int .i64 0, .int .i64 0, .int .i64 0, .slice none 0 0],42) (by simp)
 have HW:Hid (∀ w':World,Gw w w'→Gw w w'∧w'.cell? ⟨p,3,none⟩=some (.pointer (some ⟨pb,0,none⟩))∧w'.cell? ⟨p,4,none⟩=some (.pointer (some ⟨pc,0,none⟩))∧w'.cell? ⟨p,5,none⟩=some (.int .i64 (live:Int))∧p<w'.heap.size):=fun w' gg=>by
  have hh:=(gg.below.block p (blkl BL.out)).trans BL.out
  exact ⟨gg,blkc hh rfl,blkc hh rfl,blkc hh rfl,blkl hh⟩
 go_region_held3 (fun w'=>Gw w w'∧w'.cell? ⟨p,3,none⟩=some (.pointer (some ⟨pb,0,none⟩))∧w'.cell? ⟨p,4,none⟩=some (.pointer (some ⟨pc,0,none⟩))∧w'.cell? ⟨p,5,none⟩=some (.int .i64 (live:Int))∧p<w'.heap.size)
  (((refine HW.out _ ?_;repeat (first | exact And.left (by assumption) | exact Hid.out (by assumption) | refine Gw.drew ?_ | refine Gw.setCell ?_ (Nat.le_of_eq BQ.out) _));done))
  ((
   first
   | (go_at_call 44;refine (LE.out _ (by repeat (first | exact Gw.refl _ | exact And.left (by assumption) | exact Hid.out (by assumption) | refine Gw.drew ?_ | refine Gw.drewN ?_ _))).mono ?_;rintro ex wA ⟨rfl,gA⟩;have FA:Hid (Gw w1 wA):=(Gw.trans (by repeat (first | exact Gw.refl _ | exact And.left (by assumption) | exact Hid.out (by assumption) | refine Gw.drew ?_ | refine Gw.drewN ?_ _)) gA);have HA:Hid (Gw w wA):=G0.out.trans FA.out;clear gA)
   | (go_at_call 45;refine (BU.out _ (by repeat (first | exact Gw.refl _ | exact And.left (by assumption) | exact Hid.out (by assumption) | refine Gw.drew ?_ | refine Gw.drewN ?_ _))).mono ?_;rintro ex wB ⟨rfl,hwB⟩;subst hwB)
   | (go_at_call 46;refine (WR.out _ (by repeat (first | exact Gw.refl _ | exact And.left (by assumption) | exact Hid.out (by assumption) | refine Gw.drew ?_ | refine Gw.drewN ?_ _))).mono ?_;rintro ex wC ⟨rfl,hwC⟩;subst hwC)
   | (go_at_call 47;refine (SI.out _ (by repeat (first | exact Gw.refl _ | exact And.left (by assumption) | exact Hid.out (by assumption) | refine Gw.drew ?_ | refine Gw.drewN ?_ _))).mono ?_;rintro ex wD ⟨⟨tS,bS,rfl,s1,s2,s3⟩,gD⟩;have FD:Hid (Gw w1 wD):=(Gw.trans (by repeat (first | exact Gw.refl _ | exact And.left (by assumption) | exact Hid.out (by assumption) | refine Gw.drew ?_ | refine Gw.drewN ?_ _)) gD);have HD:Hid (Gw w wD):=G0.out.trans FD.out;have z0:wD.cell? ⟨bq,0,none⟩=some (.int .i64 0):=(blkc (L2.out wD FD.out) rfl);have y0:wD.frozen? ⟨bq,0,none⟩=false:=(blkf (L2.out wD FD.out));have z1:wD.cell? ⟨bq,1,none⟩=some (.int .i64 0):=(blkc (L2.out wD FD.out) rfl);have y1:wD.frozen? ⟨bq,1,none⟩=false:=(blkf (L2.out wD FD.out));have z2:wD.cell? ⟨bq,2,none⟩=some (.int .i64 0):=(blkc (L2.out wD FD.out) rfl);have y2:wD.frozen? ⟨bq,2,none⟩=false:=(blkf (L2.out wD FD.out));have z3:wD.cell? ⟨bq,3,none⟩=some (.int .i64 0):=(blkc (L2.out wD FD.out) rfl);have y3:wD.frozen? ⟨bq,3,none⟩=false:=(blkf (L2.out wD FD.out));have z4:wD.cell? ⟨bq,4,none⟩=some (.slice none 0 0):=(blkc (L2.out wD FD.out) rfl);have y4:wD.frozen? ⟨bq,4,none⟩=false:=(blkf (L2.out wD FD.out));have zl:=blkl (L2.out wD FD.out);have SS:Aside (TopR rs tS∧wD.rowIs bS 3 tS (fun i=>.int .i64 (sizeO (rs.getD i none):Int))∧w1.heap.size≤bS):=⟨s1,s2,Nat.le_trans (Gw.size (show Gw w1 _ from (by repeat (first | exact Gw.refl _ | exact And.left (by assumption) | exact Hid.out (by assumption) | refine Gw.drew ?_ | refine Gw.drewN ?_ _)))) s3⟩;clear s1 s2 s3 gD)))
 all_goals
  have T:=(blk_set16 (o:=4) (u:=(.slice (some ⟨bS,0,none⟩) tS tS)) (blk_set16 (o:=3) (u:=(.int .i64 W_)) (blk_set16 (o:=2) (u:=(.int .i64 B)) (blk_set16 (o:=1) (u:=(.int .i64 (ln:Int))) (blk_set16 (o:=0) (u:=(.int .i64 (live:Int))) (L2.out wD FD.out))))))
  have T0:(((((wD.setCell ⟨bq,0,none⟩ (.int .i64 (live:Int))).setCell ⟨bq,1,none⟩ (.int .i64 (ln:Int))).setCell ⟨bq,2,none⟩ (.int .i64 B)).setCell ⟨bq,3,none⟩ (.int .i64 W_)).setCell ⟨bq,4,none⟩ (.slice (some ⟨bS,0,none⟩) tS tS)).cell? ⟨bq,0,none⟩=some (.int .i64 (live:Int)):=blkc T rfl
  have T1:(((((wD.setCell ⟨bq,0,none⟩ (.int .i64 (live:Int))).setCell ⟨bq,1,none⟩ (.int .i64 (ln:Int))).setCell ⟨bq,2,none⟩ (.int .i64 B)).setCell ⟨bq,3,none⟩ (.int .i64 W_)).setCell ⟨bq,4,none⟩ (.slice (some ⟨bS,0,none⟩) tS tS)).cell? ⟨bq,1,none⟩=some (.int .i64 (ln:Int)):=blkc T rfl
  have T2:(((((wD.setCell ⟨bq,0,none⟩ (.int .i64 (live:Int))).setCell ⟨bq,1,none⟩ (.int .i64 (ln:Int))).setCell ⟨bq,2,none⟩ (.int .i64 B)).setCell ⟨bq,3,none⟩ (.int .i64 W_)).setCell ⟨bq,4,none⟩ (.slice (some ⟨bS,0,none⟩) tS tS)).cell? ⟨bq,2,none⟩=some (.int .i64 B):=blkc T rfl
  have T3:(((((wD.setCell ⟨bq,0,none⟩ (.int .i64 (live:Int))).setCell ⟨bq,1,none⟩ (.int .i64 (ln:Int))).setCell ⟨bq,2,none⟩ (.int .i64 B)).setCell ⟨bq,3,none⟩ (.int .i64 W_)).setCell ⟨bq,4,none⟩ (.slice (some ⟨bS,0,none⟩) tS tS)).cell? ⟨bq,3,none⟩=some (.int .i64 W_):=blkc T rfl
  have T4:(((((wD.setCell ⟨bq,0,none⟩ (.int .i64 (live:Int))).setCell ⟨bq,1,none⟩ (.int .i64 (ln:Int))).setCell ⟨bq,2,none⟩ (.int .i64 B)).setCell ⟨bq,3,none⟩ (.int .i64 W_)).setCell ⟨bq,4,none⟩ (.slice (some ⟨bS,0,none⟩) tS tS)).cell? ⟨bq,4,none⟩=some (.slice (some ⟨bS,0,none⟩) tS tS):=blkc T rfl
  have RES:Hid (SZ (((((wD.setCell ⟨bq,0,none⟩ (.int .i64 (live:Int))).setCell ⟨bq,1,none⟩ (.int .i64 (ln:Int))).setCell ⟨bq,2,none⟩ (.int .i64 B)).setCell ⟨bq,3,none⟩ (.int .i64 W_)).setCell ⟨bq,4,none⟩ (.slice (some ⟨bS,0,none⟩) tS tS)) w.heap.size bS tS rs∧Gw w (((((wD.setCell ⟨bq,0,none⟩ (.int .i64 (live:Int))).setCell ⟨bq,1,none⟩ (.int .i64 (ln:Int))).setCell ⟨bq,2,none⟩ (.int .i64 B)).setCell ⟨bq,3,none⟩ (.int .i64 W_)).setCell ⟨bq,4,none⟩ (.slice (some ⟨bS,0,none⟩) tS tS))):=by
   have gz:Gx (fun q=>q=bq) wD (((((wD.setCell ⟨bq,0,none⟩ (.int .i64 (live:Int))).setCell ⟨bq,1,none⟩ (.int .i64 (ln:Int))).setCell ⟨bq,2,none⟩ (.int .i64 B)).setCell ⟨bq,3,none⟩ (.int .i64 W_)).setCell ⟨bq,4,none⟩ (.slice (some ⟨bS,0,none⟩) tS tS)):=(((((Gx.refl (fun q=>q=bq) wD).set (.inl rfl) _ _).set (.inl rfl) _ _).set (.inl rfl) _ _).set (.inl rfl) _ _).set (.inl rfl) _ _
   have z1:=blkl (L2.out w1 (Gw.refl _))
   have z2:=G0.out.size
   refine ⟨⟨SS.out.1,SS.out.2.1.of_block (gz.block bS SS.out.2.1.lt (fun e=>?_)),Nat.le_trans z2 SS.out.2.2⟩,Gx.gw HD.out gz (fun q hq=>by have:=BQ.out;omega)⟩
   have:=SS.out.2.2
   omega
  clear T
  go_wp2_with fail
  exact bodyPost_ret (v:=statV live ln B W_ bS tS) (by simp [results,Tryz.results14,go_sem,T0,T1,T2,T3,T4,statV]) rfl ⟨⟨bS,tS,rfl,RES.out.1⟩,RES.out.2⟩
end Go.Proofs.YtjhaiiegdnamcabGreat
namespace Go.Proofs.YtjhaiiegdnamcabGreat
open Go.RowKit
set_option linter.unusedVariables false
section
variable {w w':World} {base b t:Nat} {rs:List (Option Rn)}
theorem SZ.keep (h:SZ w base b t rs) (k:w'.heap[b]?=w.heap[b]?):SZ w' base b t rs:=⟨h.top,h.row.of_block k,h.new⟩
theorem SZ.gw (h:SZ w base b t rs) (g:Gw w w'):SZ w' base b t rs:=h.keep (g.below.block b h.row.lt)
theorem SZ.gx {F:Nat→Prop} (h:SZ w base b t rs) (g:Gx F w w') (d:¬ F b):SZ w' base b t rs:=h.keep (g.block b h.row.lt d)
theorem SZ.le (h:SZ w base b t rs) (l40:rs.length=40):t≤40:=by have:=h.top.le;omega
end
set_option maxRecDepth 10000 in
set_option maxHeartbeats 2000000 in
theorem sameInts16 {base base' b b' t t':Nat} {rs rs':List (Option Rn)} (eq:∀ k,sizeO (rs.getD k none)=sizeO (rs'.getD k none)) (tt:t=t') (l40:rs.length=40) (w:World) (h:SZ w base b t rs) (h':SZ w base' b' t' rs') :
  Calls Tryz.prog 15 #[.slice (some ⟨b,0,none⟩) t t, .slice (some ⟨b',0,none⟩) t' t'] w fun e w'=>e=.returned (.bool true)∧Gw w w':=by
 subst tt
 have tl:=h.le l40
 have S1:Aside (SZ w base b t rs):=h
 have S2:Aside (SZ w base' b' t rs'):=h'
 have EQ:Aside (∀ k,sizeO (rs.getD k none)=sizeO (rs'.getD k none)):=eq
 clear h h' eq l40
 go_enter Tryz.func15,Tryz.ntmps15
 go_wp2_with fail
 go_loopg [5] t (fun gg s5 wr=>∃ i:Nat,s5=.int .i64 (i:Int)∧i≤t∧t-i≤gg∧Aside (Gw w wr))
 case atStart=>exact ⟨0,rfl,Nat.zero_le _,by omega,(show Aside _ from Gw.refl w)⟩
 case round =>
  obtain ⟨i,rfl,a1,a2,G⟩:=hrel
  by_cases hlt:i<t
  ·have hlt':(i:Int)<(t:Int):=by omega
   have c1:=(S1.out.gw G.out).row.cell hlt
   have c2:=(S2.out.gw G.out).row.cell hlt
   have d1:=(S1.out.gw G.out).row.lt
   have d2:=(S2.out.gw G.out).row.lt
   rw [←EQ.out i] at c2
   generalize sizeO (rs.getD i none)=x at c1 c2
   go_wp2_with fail
   go_quiet (fail)
   go_wp2_with fail
   go_roundg (t-(i+1))
   case measure=>omega
   case rel=>exact ⟨i+1,by go_num,by omega,Nat.le_refl _,(show Aside _ from G.out.drewN _)⟩
  ·go_wp2_with fail
   go_ret
   exact ⟨rfl,G.out⟩
end Go.Proofs.YtjhaiiegdnamcabGreat
