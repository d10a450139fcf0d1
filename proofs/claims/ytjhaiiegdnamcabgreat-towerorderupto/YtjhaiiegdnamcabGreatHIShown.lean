/- Layer 16's statements' own: shown. -/
import Derived.BigQuiet
import Derived.Deep.QuietTactic
import Derived.Test.YtjhaiiegdnamcabGreatHIOf
namespace Go.Proofs.YtjhaiiegdnamcabGreat
open Go.RowKit
set_option linter.unusedVariables false
def sh1:Ent:=⟨1,10,false⟩
def sh2:Ent:=⟨2,20,false⟩
def sh3:Ent:=⟨3,30,false⟩
def sh4:Ent:=⟨4,40,false⟩
def shL:Nat→List Ent
 | 0=>[]
 | 1=>[sh1]
 | 2=>[sh1,sh2]
 | _=>[sh1,sh2,sh3]
def ShT (m:Nat) (l:List Ent) (rs:List (Option Rn)) (B W:Int):Prop :=
 (m≤3∧l=shL m∧rs=List.replicate 40 none∧B=0∧W=0)∨(m=4∧l=[]∧(∃ r,rs=some r::List.replicate 39 none∧r.l=[sh1,sh2,sh3,sh4])∧B=1∧W=4)
theorem nw_no (n:Nat) (q:Int):nw q (List.replicate n none)=none:=by
 have:=nw_rep q n []
 rw [List.append_nil] at this
 rw [this]
 rfl
theorem shT_no {m:Nat} {l:List Ent} {rs:List (Option Rn)} {B W:Int} (hm:m<4) (h:ShT m l rs B W):valE l rs ((m:Int)+1)=none:=by
 rcases h with ⟨_,rfl,rfl,_,_⟩ | ⟨x,_⟩
 ·unfold valE newE
  rw [nw_no]
  match m,hm with
  | 0,_=>rfl
  | 1,_=>rfl
  | 2,_=>rfl
  | 3,_=>rfl
 ·omega
theorem shT_step {HR:HRt} {w w':World} {m:Nat} {l l':List Ent} {rs rs':List (Option Rn)} {B W B' W':Int} (hm:m<4) (h:ShT m l rs B W) (c:LayR HR w w' 2 4 l rs B W l' rs' B' W' ⟨(m:Int)+1,10*((m:Int)+1),false⟩):ShT (m+1) l' rs' B' W':=by
 rcases h with ⟨_,rfl,rfl,rfl,rfl⟩ | ⟨x,_⟩
 ·match m,hm with
  | 0,_ =>
   rcases c with ⟨_,rfl,rfl,rfl,rfl⟩ | ⟨x,_⟩
   ·exact .inl ⟨by decide,rfl,rfl,rfl,rfl⟩
   ·exact absurd x (by decide)
  | 1,_ =>
   rcases c with ⟨_,rfl,rfl,rfl,rfl⟩ | ⟨x,_⟩
   ·exact .inl ⟨by decide,rfl,rfl,rfl,rfl⟩
   ·exact absurd x (by decide)
  | 2,_ =>
   rcases c with ⟨_,rfl,rfl,rfl,rfl⟩ | ⟨x,_⟩
   ·exact .inl ⟨by decide,rfl,rfl,rfl,rfl⟩
   ·exact absurd x (by decide)
  | 3,_ =>
   rcases c with ⟨x,_⟩ | ⟨_,rfl,o,kept,rn,tr,ld,rfl,rfl,rfl⟩
   ·exact absurd x (by decide)
   ·have il:ins Ent.k ⟨((3:Nat):Int)+1,10*(((3:Nat):Int)+1),false⟩ (shL 3)=[sh1,sh2,sh3,sh4]:=rfl
    have f0:freeC (List.replicate 40 none)=0:=rfl
    have eo:o=[sh1,sh2,sh3,sh4]:=by
     have mg:=tr.mg
     rw [il] at mg
     refine mg.one (b:=[sh1,sh2,sh3,sh4]) ?_
     rw [show lists ((List.replicate 40 (none:Option Rn)).take (freeC (List.replicate 40 none)+1))=[] from rfl]
     exact ⟨rfl,rfl,rfl,rfl,rfl⟩
    have ek:kept=[sh1,sh2,sh3,sh4]:=by rw [tr.kp,eo];rfl
    rcases ld with ⟨x,_⟩ | ⟨_,r,rfl,_,rl,_⟩
    ·rw [ek] at x;cases x
    ·refine .inr ⟨rfl,rfl,⟨r,rfl,by rw [rl,ek]⟩,?_,?_⟩
     ·rw [ek];rfl
     ·rw [ek];rfl
 ·omega
theorem config16 (w:World):Calls Tryz.prog 36 #[] w fun e w'=>e=.returned (.agg #[.int .i64 2, .int .i64 4, .int .i64 100])∧Gw w w':=by
 go_enter Tryz.func36,Tryz.ntmps36
 go_wp2_with fail
 exact bodyPost_ret (v:=.agg #[.int .i64 2, .int .i64 4, .int .i64 100]) (by simp [results,Tryz.results36,go_sem]) rfl ⟨rfl,(Gw.refl w).alloc _ _⟩
set_option maxRecDepth 20000 in
set_option maxHeartbeats 8000000 in
theorem shown16 {HR:HRt} (H:RunC HR) (w:World):Calls Tryz.prog 7 #[] w fun e w'=>e=.returned (.bool true)∧Gw w w':=by
 have HH:Aside (RunC HR):=H
 have NW:Hid (∀ W,Gw w W→Calls Tryz.prog 8 #[.agg #[.int .i64 2, .int .i64 4, .int .i64 100]] W fun e w'=>(∃ p F,e=.returned (.tuple #[.pointer (some ⟨p,0,none⟩), .int .i64 0])∧Tw HR w w' p F 2 4 100 [] (List.replicate 40 none) 0 0 0)∧Gw W w'):=fun W gg=>(new16 H 2 4 100 W).mono fun e w' ⟨h,g⟩=>by
  rcases h with ⟨x,_⟩ | ⟨_,p,F,x1,x2,x3⟩
  ·exact absurd (by unfold CfgOk;decide) x
  ·exact ⟨⟨p,F,x1,x2,fun q hq=>Nat.le_trans gg.size (x3 q hq),gg.trans g⟩,g⟩
 have PU:Hid (∀ (W:World) (p:Nat) (F:Nat→Prop) (l:List Ent) (rs:List (Option Rn)) (B W_:Int) (m:Nat),m<4→Tw HR w W p F 2 4 100 l rs B W_ m→ShT m l rs B W_→Calls Tryz.prog 37 #[.pointer (some ⟨p,0,none⟩), .int .u64 ((m:Int)+1), .int .u64 (10*((m:Int)+1))] W fun e w'=>e=.returned (.int .i64 0)∧∃ F' l' rs' B' W',Tw HR w w' p F' 2 4 100 l' rs' B' W' (m+1)∧ShT (m+1) l' rs' B' W'):=fun W p F l rs B W_ m hm ht hs=>by
  have bd:(l.length+1+tot rs≤2000000)∧(0≤B∧B<4611686018427387904)∧0≤W_∧W_<4611686018427387904:=by
   rcases hs with ⟨a,rfl,rfl,rfl,rfl⟩ | ⟨a,_⟩
   ·match m,hm with
    | 0,_=>exact ⟨by decide,by decide,by decide⟩
    | 1,_=>exact ⟨by decide,by decide,by decide⟩
    | 2,_=>exact ⟨by decide,by decide,by decide⟩
    | 3,_=>exact ⟨by decide,by decide,by decide⟩
   ·omega
  refine (tput16 HH.out ht.ht bd.1 bd.2.1 bd.2.2 ((m:Int)+1) (10*((m:Int)+1)) (by omega) (by omega)).mono fun e w' h=>?_
  have vn:=shT_no hm hs
  rcases h with ⟨⟨_,x⟩,_⟩ | ⟨_,x,y⟩
  ·omega
  ·rw [vn,if_pos rfl] at y
   obtain ⟨F',l',rs',B',W',a,b,_⟩:=ht.step y
   exact ⟨x,F',l',rs',B',W',a,shT_step hm hs b⟩
 clear H
 go_enter Tryz.func7,Tryz.ntmps7
 go_wp2_with fail
 refine (config16 w).mono ?_
 rintro e w1 ⟨rfl,g1⟩
 have G1:Aside (Gw w w1):=g1
 clear g1
 go_wp2_with fail
 refine Calls.mono (NW.out w1 G1.out) ?_
 rintro e w2 ⟨⟨p,F,rfl,ht⟩,g2⟩
 have T2:Aside (∃ F l rs B W,Tw HR w w2 p F 2 4 100 l rs B W 0∧ShT 0 l rs B W):=⟨F,_,_,_,_,ht, .inl ⟨by decide,rfl,rfl,rfl,rfl⟩⟩
 have qn:∀ (W:World),(binOp .eql 26 (.pointer (some ⟨p,0,none⟩)) (.pointer none)).run Tryz.prog W=.ok (.bool false) W:=fun _=>by kernel_rfl
 clear ht g2 NW G1
 go_wp2_with fail
 go_loopg [3] 5 (fun gg s3 wr=>∃ m:Nat,s3=.int .u64 ((m:Int)+1)∧m≤4∧4-m<gg∧Aside (∃ F l rs B W,Tw HR w wr p F 2 4 100 l rs B W m∧ShT m l rs B W))
 case atStart=>exact ⟨0,rfl,by omega,by omega,T2⟩
 case round =>
  clear T2
  obtain ⟨m,rfl,a1,a2,T⟩:=hrel
  by_cases hlt:m<4
  ·have t1:decide ((m:Int)+1≤4)=true:=by simp;omega
   have w1:IntKind.u64.wrap (10*((m:Int)+1))=10*((m:Int)+1):=by rw [IntKind.wrap_u64];omega
   have w2:IntKind.u64.wrap ((m:Int)+1+1)=((m+1:Nat):Int)+1:=by rw [IntKind.wrap_u64];omega
   obtain ⟨F,l,rs,B,W,x1,x2⟩:=T.out
   have PC:=PU.out wr p F l rs B W m hlt x1 x2
   clear x1 x2 T
   go_wp2_with fail
   refine Calls.mono PC ?_
   rintro e u1 ⟨rfl,hT⟩
   have T':Aside (∃ F l rs B W,Tw HR w u1 p F 2 4 100 l rs B W (m+1)∧ShT (m+1) l rs B W):=hT
   clear hT PC
   go_wp2_with fail
   go_roundg (4-m)
   case measure=>omega
   case rel=>exact ⟨m+1,by first | rfl | (rw [w2]) | (congr 1;omega),by omega,by omega,T'⟩
  ·have em:m=4:=by omega
   subst em
   obtain ⟨F,l,rs,B,W,x1,x2⟩:=T.out
   rcases x2 with ⟨x,_⟩ | ⟨_,rfl,⟨r,rfl,rl⟩,rfl,rfl⟩
   ·exact absurd x (by decide)
   have TW:Aside (Tw HR w wr p F 2 4 100 [] (some r::List.replicate 39 none) 1 4 4):=x1
   have RL:Aside (r.l=[sh1,sh2,sh3,sh4]):=rl
   have ST:Hid (Calls Tryz.prog 14 #[.pointer (some ⟨p,0,none⟩)] wr fun e w'=>(∃ b,e=.returned (.agg #[.int .i64 4, .int .i64 0, .int .i64 1, .int .i64 4, .slice (some ⟨b,0,none⟩) 1 1])∧wr.heap.size≤b∧w'.cell? ⟨b,0,none⟩=some (.int .i64 4)∧b<w'.heap.size)∧Gw wr w'):=(tstats16 HH.out x1.ht).mono fun e w' ⟨⟨b,t,e1,sz⟩,g⟩=>by
    have t1:t=1:=sz.top.one ⟨by simp,fun i hi=>by
     rw [List.getD_eq_getElem?_getD]
     obtain ⟨j,rfl⟩:∃ j,i=j+1:=⟨i-1,by omega⟩
     rw [List.getElem?_cons_succ,List.getElem?_replicate]
     split<;>rfl, .inr ⟨r,rfl⟩⟩
    subst t1
    refine ⟨⟨b,e1,sz.new,?_⟩,g⟩
    have c:=sz.row.cell (i:=0) (by decide)
    rw [show ((some r::List.replicate 39 none:List (Option Rn)).getD 0 none)=some r from rfl,show sizeO (some r)=4 by show r.l.length=4;rw [rl];rfl] at c
    exact ⟨c,sz.row.lt⟩
   clear x1 rl T
   go_wp2_with fail
   refine Calls.mono ST.out ?_
   rintro e u1 ⟨⟨b,rfl,nb,hb,hbl⟩,gg⟩
   obtain ⟨bs,hbs⟩:∃ x,u1.heap.size=x:=⟨_,rfl⟩
   have BS:Aside (u1.heap.size=bs):=hbs
   have T1:Aside (Tw HR w (u1.alloc (.cells #[.int .i64 4, .int .i64 0, .int .i64 1, .int .i64 4, .slice (some ⟨b,0,none⟩) 1 1] 42)) p F 2 4 100 [] (some r::List.replicate 39 none) 1 4 4):=TW.out.to HH.out.kp (gg.alloc _ _)
   have K1:Aside (Bxs wr [(bs,#[.int .i64 4, .int .i64 0, .int .i64 1, .int .i64 4, .slice (some ⟨b,0,none⟩) 1 1],42)] (u1.alloc (.cells #[.int .i64 4, .int .i64 0, .int .i64 1, .int .i64 4, .slice (some ⟨b,0,none⟩) 1 1] 42))∧(u1.alloc (.cells #[.int .i64 4, .int .i64 0, .int .i64 1, .int .i64 4, .slice (some ⟨b,0,none⟩) 1 1] 42)).cell? ⟨b,0,none⟩=some (.int .i64 4)∧wr.heap.size≤b∧b<u1.heap.size):=by
    refine ⟨by rw [←hbs];exact (Bxs.nil gg).add _ _,?_,nb,hbl⟩
    exact (((Gw.refl u1).alloc _ _).cell _ _ hbl).trans hb
   clear hb nb gg ST hbs
   go_upto_region 11 with fail
   rw [BS.out]
   have SZ1:Aside (u1.heap.size<(u1.alloc (.cells #[.int .i64 4, .int .i64 0, .int .i64 1, .int .i64 4, .slice (some ⟨b,0,none⟩) 1 1] 42)).heap.size):=by show _<_;simp
   generalize u1.alloc (.cells #[.int .i64 4, .int .i64 0, .int .i64 1, .int .i64 4, .slice (some ⟨b,0,none⟩) 1 1] 42)=v1 at T1 K1 SZ1 ⊢
   have FW:Aside (∀ q,F q→q<wr.heap.size):=fun q hq=>TW.out.ht.lt HH.out.kp q (.inl hq)
   have KK:Aside (∀ v2,Gx F v1 v2→v2.heap[bs]?=some (.cells #[.int .i64 4, .int .i64 0, .int .i64 1, .int .i64 4, .slice (some ⟨b,0,none⟩) 1 1] 42 (0,0))∧v2.cell? ⟨b,0,none⟩=some (.int .i64 4)∧b<v2.heap.size):=fun v2 g=>by
    have k:=K1.out.1.lie (bs,#[.int .i64 4, .int .i64 0, .int .i64 1, .int .i64 4, .slice (some ⟨b,0,none⟩) 1 1],42) (by simp)
    have z:=K1.out.1.gw0.size
    have bw:wr.heap.size≤bs:=by rw [←BS.out];have:=K1.out.2.2;omega
    refine ⟨(g.block bs (blkl k) (fun x=>by have:=FW.out bs x;omega)).trans k,?_,Nat.lt_of_lt_of_le (by have:=SZ1.out;have:=K1.out.2.2.2;omega) g.size⟩
    have e:=g.block b (by have:=SZ1.out;have:=K1.out.2.2.2;omega) (fun x=>by have:=FW.out b x;have:=K1.out.2.2.1;omega)
    have c:=K1.out.2.1
    unfold World.cell? at c ⊢
    simp only at c ⊢
    rw [e]
    exact c
   have V2:valE [] (some r::List.replicate 39 none) 2=some 20:=by
    unfold valE newE
    rw [nw_some,RL.out]
    rfl
   have DL:Hid (Calls Tryz.prog 38 #[.pointer (some ⟨p,0,none⟩), .int .u64 2] v1 fun e w'=>e=.returned (.bool true)∧(∃ F',Tw HR w w' p F' 2 4 100 [⟨2,0,true⟩] (some r::List.replicate 39 none) 1 4 3)∧Gx F v1 w'):=(tdel16 HH.out T1.out.ht (by rw [tot_some,RL.out];decide) (by decide) (by decide) 2 (by decide)).mono fun e w' h=>by
    rcases h with ⟨x,_⟩ | ⟨_,x,_,y⟩
    ·rw [V2] at x;cases x
    ·obtain ⟨F',l',rs',B',W',a,b,_,d⟩:=T1.out.step y
     rcases b with ⟨_,rfl,rfl,rfl,rfl⟩ | ⟨z,_⟩
     ·exact ⟨x,⟨F',a⟩,d⟩
     ·exact absurd z (by decide)
   clear V2 K1 T1 TW
   go_wp2_with fail
   refine Calls.mono DL.out ?_
   rintro e v2 ⟨rfl,⟨F2,t2⟩,g2⟩
   have T2:Aside (Tw HR w v2 p F2 2 4 100 [⟨2,0,true⟩] (some r::List.replicate 39 none) 1 4 3):=t2
   have K2:Aside (v2.heap[bs]?=some (.cells #[.int .i64 4, .int .i64 0, .int .i64 1, .int .i64 4, .slice (some ⟨b,0,none⟩) 1 1] 42 (0,0))∧v2.cell? ⟨b,0,none⟩=some (.int .i64 4)∧b<v2.heap.size):=KK.out v2 g2
   have V2:valE [⟨2,0,true⟩] (some r::List.replicate 39 none) 2=none:=by
    unfold valE newE
    rw [nw_some,RL.out]
    rfl
   have V3:valE [⟨2,0,true⟩] (some r::List.replicate 39 none) 3=some 30:=by
    unfold valE newE
    rw [nw_some,RL.out]
    rfl
   have DL2:Hid (Calls Tryz.prog 38 #[.pointer (some ⟨p,0,none⟩), .int .u64 2] v2 fun e w'=>e=.returned (.bool false)∧Gw v2 w'):=(tdel16 HH.out t2.ht (by rw [tot_some,RL.out];decide) (by decide) (by decide) 2 (by decide)).mono fun e w' h=>by
    rcases h with ⟨_,x,g⟩ | ⟨x,_⟩
    ·exact ⟨x,g⟩
    ·exact absurd V2 x
   have G3:Hid (∀ W,Gw v2 W→Calls Tryz.prog 17 #[.pointer (some ⟨p,0,none⟩), .int .u64 3] W fun e w'=>e=.returned (.tuple #[.int .u64 30, .bool true])∧Gw W w'):=fun W g=>by
    have:=tget16 HH.out (t2.ht.gw HH.out.kp g) (by decide) 3 (by decide) (by decide)
    rw [V3] at this
    exact this
   have G2:Hid (∀ W,Gw v2 W→Calls Tryz.prog 17 #[.pointer (some ⟨p,0,none⟩), .int .u64 2] W fun e w'=>e=.returned (.tuple #[.int .u64 0, .bool false])∧Gw W w'):=fun W g=>by
    have:=tget16 HH.out (t2.ht.gw HH.out.kp g) (by decide) 2 (by decide) (by decide)
    rw [V2] at this
    exact this
   clear V2 V3 t2 g2 DL KK
   go_wp2_with fail
   refine Calls.mono DL2.out ?_
   rintro e v3 ⟨rfl,g3⟩
   have GA:Aside (Gw v2 v3):=g3
   clear g3 DL2
   go_wp2_with fail
   refine Calls.mono (G3.out v3 GA.out) ?_
   rintro e v4 ⟨rfl,g4⟩
   have GB:Aside (Gw v2 v4):=GA.out.trans g4
   clear g4 GA G3
   go_wp2_with fail
   refine Calls.mono (G2.out v4 GB.out) ?_
   rintro e v5 ⟨rfl,g5⟩
   have GC:Aside (Gw v2 v5):=GB.out.trans g5
   have b5:=(GC.out.below.block bs (blkl K2.out.1)).trans K2.out.1
   have s0:v5.cell? ⟨bs,0,none⟩=some (.int .i64 4):=blkc b5 rfl
   have s1:v5.cell? ⟨bs,1,none⟩=some (.int .i64 0):=blkc b5 rfl
   have s2:v5.cell? ⟨bs,2,none⟩=some (.int .i64 1):=blkc b5 rfl
   have s3:v5.cell? ⟨bs,3,none⟩=some (.int .i64 4):=blkc b5 rfl
   have s4:v5.cell? ⟨bs,4,none⟩=some (.slice (some ⟨b,0,none⟩) 1 1):=blkc b5 rfl
   have sl:=blkl b5
   have sb:v5.cell? ⟨b,0,none⟩=some (.int .i64 4):=(GC.out.cell _ _ K2.out.2.2).trans K2.out.2.1
   have sbl:b<v5.heap.size:=Nat.lt_of_lt_of_le K2.out.2.2 GC.out.size
   have RES:Aside (Gw w v5):=T2.out.gw.trans GC.out
   clear g5 b5 GB GC G2 K2 T2
   go_wp2_with fail
   go_ret
   exact ⟨rfl,RES.out⟩
end Go.Proofs.YtjhaiiegdnamcabGreat
