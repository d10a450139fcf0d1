/- The statements' example of layer 12; rows of bytes handed to Get. -/
import Derived.Test.YtinefkljjnepjabGreatTJP
import Derived.Test.YtinefkljjnepjabGreatTPXR
import Derived.Test.YtinefkljjnepjabGreatTJG
namespace Go.Proofs.YtinefkljjnepjabGreat
open Go.RowKit
set_option linter.unusedVariables false
def lf (l:List Int) (i:Nat):Int:=l.getD i 0
theorem lf_lies (l:List Int):Lies (lf l) 0 l:=fun i hi=>by
 unfold lf
 rw [Nat.zero_add,List.getD_eq_getElem?_getD,List.getElem?_eq_getElem hi]
 rfl
theorem lies_lf {f:Nat→Int} {l:List Int} (h:Lies f 0 l):∀ i,i<l.length→f i=lf l i:=fun i hi=>by
 have:=h i hi
 rw [Nat.zero_add] at this
 unfold lf
 rw [List.getD_eq_getElem?_getD,this]
 rfl
theorem bl_bs {w:World} {base:Nat} {bo:Option Addr} {c:Nat} {l:List Int} (h:BL w base (.slice bo l.length c) l) (bd:∀ y∈l,0≤y∧y<256):BS w bo l.length (lf l):=by
 refine ⟨fun h0=>?_,fun i hi=>?_⟩
 ·rcases h.2 with ⟨e,z⟩ | ⟨g,cap,cur,e,hb,hh,r⟩
  ·omega
  ·have e':=e
   injection e' with e1 e2 e3
   subst e1
   refine ⟨g,0,rfl,(Array.getElem?_eq_some_iff.1 hh).1,fun i hi=>?_⟩
   rw [Nat.zero_add,World.ownsRow.cellAt h i (by omega)]
   unfold i8 lf
   rw [List.getElem?_map,List.getD_eq_getElem?_getD,List.getElem?_eq_getElem hi]
   rfl
 ·unfold lf
  rw [List.getD_eq_getElem?_getD,List.getElem?_eq_getElem hi]
  exact bd _ (List.getElem_mem hi)
theorem run_g {HR:World→Nat→(Nat→Prop)→Int→(Nat→Int)→(Nat→Int)→(Nat→Bool)→Nat→List (List Sg)→Prop} (H:RunC HR) {w:World} {p:Nat} {S:Nat→Prop} {eps:Int} {k v:Nat→Int} {g:Nat→Bool} {n:Nat} {L:List (List Sg)} (h:HR w p S eps k v g n L) (of:OfE eps k v g n L 0) (bd:∀ i,i<n→(0≤k i∧k i<18446744073709551616)∧(0≤v i∧v i<18446744073709551616)):RunG eps k v g n L:=by
 obtain ⟨pp,Sp,_,hp,_⟩:=H.pile h
 obtain ⟨ko,kc,lo,lc,_,_,hv⟩:=hp.opened
 exact ⟨H.ready h,of,bd,vs_ok8 hv⟩
theorem new_of {eps:Int} {k v:Nat→Int} {g:Nat→Bool} {n:Nat} {L:List (List Sg)} (h:NewE eps k v g n 0) (b:BuildR eps k n L) (n1:n≤2000000) (bd:∀ i,i<n→(0≤k i∧k i<18446744073709551616)∧(0≤v i∧v i<18446744073709551616)):OfE eps k v g n L 0 :=
 ⟨0,h, .inr ⟨rfl,b.takenW h.up.1.1 h.up.1.2 n1 (fun t ht=>(bd t ht).1) h.up.2⟩⟩
theorem RunG.te {eps:Int} {k v:Nat→Int} {g:Nat→Bool} {n:Nat} {L:List (List Sg)} (h:RunG eps k v g n L):∀ l∈L,∀ s∈l,0≤s.te:=fun l hl s hs=>((h.wr.lw l hl).2 s hs).t0
theorem segE_congr {eps:Int} {f f':Nat→Int} {n:Nat} (e0:0≤eps) (e:∀ i,i<n→f i=f' i) {s:Sg} (te:s.te≤n) (h:segE eps f s=0):segE eps f' s=0:=by
 obtain ⟨a,b,c⟩:=segE_ok.1 h
 have A:=errM_ok.1 a
 refine segE_ok.2 ⟨a,by rw [b,e _ (by omega)],worst_le e0 _ fun i hi=>?_⟩
 have W:=(worst_in (away s.k s.sl s.ic s.fr s.te (sh f s.fr.toNat)) (s.te-s.fr).toNat).2 i hi
 have q:away s.k s.sl s.ic s.fr s.te (sh f' s.fr.toNat) i=away s.k s.sl s.ic s.fr s.te (sh f s.fr.toNat) i:=by
  unfold away sh
  rw [e (s.fr.toNat+i) (by omega)]
 rw [q]
 omega
theorem lvlE_congr {eps:Int} {f f':Nat→Int} {n:Nat} (e0:0≤eps) (e:∀ i,i<n→f i=f' i) {l:List Sg} (tl:tileB n 0 l=true) (h:lvlE eps f l=0):lvlE eps f' l=0:=by
 refine lvlE_ok.2 fun s hs=>?_
 obtain ⟨t,ht,e'⟩:=mem_getD (d:=sg0) hs
 have T:=tile_at tl t ht
 rw [e'] at T
 exact segE_congr e0 e T.2.2.1 (lvlE_ok.1 h s hs)
theorem chkE_congr {eps:Int} {f f':Nat→Int} {n:Nat} (e0:0≤eps) (e:∀ i,i<n→f i=f' i) {L:List (List Sg)} (h:chkE eps f n L=0):chkE eps f' n L=0:=by
 cases L with
 | nil=>rfl
 | cons l r =>
  unfold chkE at h ⊢
  by_cases t:(tileB n 0 l&&!l.isEmpty)=false
  ·rw [if_pos t] at h;omega
  ·rw [if_neg t] at h ⊢
   have t':tileB n 0 l=true:=by
    have:(tileB n 0 l&&!l.isEmpty)=true:=by simpa using t
    rw [Bool.and_eq_true] at this
    exact this.1
   by_cases z:lvlE eps f l=0
   ·rw [if_neg (fun q=>q z)] at h
    rw [if_neg (fun q=>q (lvlE_congr e0 e t' z))]
    exact h
   ·rw [if_pos z] at h
    exact absurd h z
theorem up_congr {f f':Nat→Int} {n:Nat} (e:∀ i,i<n→f i=f' i) (h:Up f n):Up f' n:=fun j hj=>by
 rw [←e j (by omega),←e (j+1) hj]
 exact h j hj
theorem OfE.congr0 {eps:Int} {k v k' v':Nat→Int} {g g':Nat→Bool} {n:Nat} {L:List (List Sg)} (h:OfE eps k v g n L 0) (e:∀ i,i<n→k i=k' i∧v i=v' i∧g i=g' i):OfE eps k' v' g' n L 0:=by
 obtain ⟨a,b⟩:=h.new0
 have up:=a.up
 have gn:=a.gone
 refine ⟨0, .inr ⟨up.1, .inl ⟨rfl,up_congr (fun i hi=>(e i hi).1) up.2,fun j hj=>?_⟩⟩, .inr ⟨rfl,?_⟩⟩
 ·rw [←(e j hj).2.1,←(e j hj).2.2]
  exact gn j hj
 ·rcases b with ⟨_,q⟩ | ⟨_,_,q⟩ | ⟨_,_,_,q⟩ | ⟨x1,x2,x3,q⟩
  ·cases q
  ·cases q
  ·cases q
  ·exact .inr (.inr (.inr ⟨x1,up_congr (fun i hi=>(e i hi).1) x2,x3,(chkE_congr (by omega) (fun i hi=>(e i hi).1) q.symm).symm⟩))
theorem RunG.bytes {eps:Int} {k v:Nat→Int} {g:Nat→Bool} {n:Nat} {L:List (List Sg)} (h:RunG eps k v g n L) {f:Nat→Int} (l:Lies f 0 (putB eps k v g n L)):Fit f (putB eps k v g n L).length∧numR f 4 8=eps∧nF f=n∧(∀ i,i<n→kF f i=k i∧vF f i=v i∧gF f i=g i)∧hF f=L.length∧LF f=L:=by
 obtain ⟨b1,b2,b3,b4,b5,b6,b7⟩:=back12 h.wr h.low l
 refine ⟨⟨h.fit l,?_⟩,b1,b2,fun i hi=>⟨(b3 i hi).1,(b3 i hi).2.1,(b3 i hi).2.2.1⟩,b4,b5⟩
 rw [b1,b2,b5]
 exact h.of.congr0 fun i hi=>⟨((b3 i hi).1).symm,((b3 i hi).2.1).symm,((b3 i hi).2.2.1).symm⟩
theorem one_level {f:Nat→Int} {L:List (List Sg)} (bd:∀ t,t<1→0≤f t∧f t<18446744073709551616) (h:BuildR 2 f 1 L):∃ s,L=[[s]]:=by
 cases L with
 | nil=>exact absurd (show 1=0 from h) (by decide)
 | cons l r =>
  obtain ⟨_,lv,h3⟩:=h
  have t:=lv.tiles (by decide) bd
  cases l with
  | nil=>exact absurd (tileB_nil.1 t) (by decide)
  | cons s t' =>
   obtain ⟨a,b,c,d⟩:=tileB_cons.1 t
   have e:s.te.toNat=1:=by omega
   rw [e] at d
   cases t' with
   | nil =>
    have h4:r=[]:=h3
    exact ⟨s,by rw [h4]⟩
   | cons u t2 =>
    obtain ⟨a2,b2,c2,d2⟩:=tileB_cons.1 d
    omega
theorem es_one12 (w:World):ES (w.alloc (.cells #[.int .u64 10, .int .u64 7, .bool false] 39)) (some ⟨w.heap.size,0,none⟩) 1 (fun _=>10) (fun _=>7) (fun _=>false):=by
 refine ⟨fun _=>⟨w.heap.size,0,rfl,by simp,fun i hi=>?_⟩,fun i hi=>⟨⟨by decide,by decide⟩,by decide,by decide⟩⟩
 have:i=0:=by omega
 subst this
 refine ⟨?_,?_,?_⟩<;>simp
set_option maxRecDepth 10000 in
set_option maxHeartbeats 4000000 in
theorem shown12 {HR:World→Nat→(Nat→Prop)→Int→(Nat→Int)→(Nat→Int)→(Nat→Bool)→Nat→List (List Sg)→Prop} (H:RunC HR) (w:World):Calls Tryz.prog 6 #[] w fun e w'=>e=.returned (.bool true)∧Gw w w':=by
 have HH:Hid (RunC HR):=H
 clear H
 have BD:Hid (∀ i,i<1→(0≤(fun _=>(10:Int)) i∧(fun _=>(10:Int)) i<18446744073709551616)∧(0≤(fun _=>(7:Int)) i∧(fun _=>(7:Int)) i<18446744073709551616)):=fun i hi=>⟨⟨show (0:Int)≤10 by decide,show (10:Int)<_ by decide⟩,show (0:Int)≤7 by decide,show (7:Int)<_ by decide⟩
 have NE0:Hid (NewE 2 (fun _=>10) (fun _=>7) (fun _=>false) 1 0):=.inr ⟨by decide, .inl ⟨rfl,fun j hj=>by omega,fun j hj x=>by cases x.1⟩⟩
 go_enter Tryz.func6,Tryz.ntmps6
 go_wp2_with fail
 refine Calls.mono (HH.out.new 2 _ 1 1 (fun _=>10) (fun _=>7) (fun _=>false) (by decide) (by decide) (by decide) (by decide) (by simp) _ (es_one12 w)) ?_
 rintro e w2 ⟨⟨E,ne,x⟩,g2⟩
 have e0:=ne.one NE0.out
 subst e0
 rcases x with ⟨x,_⟩ | ⟨_,p,S,L,rfl,hS,br,hr⟩
 ·exact absurd rfl x
 obtain ⟨s,rfl⟩:=one_level (fun t ht=>⟨by decide,by decide⟩) br
 have G2:Hid (Gw w w2):=((Gw.refl w).alloc _ _).trans g2
 have RG:Hid (RunG 2 (fun _=>10) (fun _=>7) (fun _=>false) 1 [[s]]):=run_g HH.out hr (new_of ne br (by decide) BD.out) BD.out
 have PL:(putB 2 (fun _=>10) (fun _=>7) (fun _=>false) 1 [[s]]).length=77:=by
  unfold putB
  simp [num8_len,headB,entsB,entB_len,levsB,levB_len]
 obtain ⟨B,hB⟩:∃ B,putB 2 (fun _=>10) (fun _=>7) (fun _=>false) 1 [[s]]=B:=⟨_,rfl⟩
 have PU:Hid (Calls Tryz.prog 8 #[.pointer (some ⟨p,0,none⟩)] w2 fun e w'=>(∃ bo c,e=.returned (.slice bo 77 c)∧BS w' bo 77 (lf B))∧Gw w2 w'):=(jput HH.out hr BD.out RG.out.te).mono fun e w' ⟨⟨bo,c,a,b⟩,d⟩=>by
  refine ⟨⟨bo,c,by rw [←PL];exact a,?_⟩,d⟩
  have:=bl_bs b (putB_bd _ _ _ _ _ _)
  rw [PL,hB] at this
  exact this
 have LB:Hid (Lies (lf B) 0 (putB 2 (fun _=>10) (fun _=>7) (fun _=>false) 1 [[s]])):=by rw [←hB];exact lf_lies _
 obtain ⟨ft,b1,b2,b3,_⟩:=RG.out.bytes LB.out
 rw [PL] at ft
 have FT:Hid (Fit (lf B) 77):=ft
 have B2:Hid (nF (lf B)=1∧kF (lf B) 0=10∧vF (lf B) 0=7∧gF (lf B) 0=false):=⟨b2,(b3 0 (by decide)).1,(b3 0 (by decide)).2.1,(b3 0 (by decide)).2.2⟩
 clear g2 ne hS br hr BD NE0 PL ft b1 b2 b3 LB RG
 go_wp2_with fail
 refine PU.out.mono ?_
 rintro e w3 ⟨⟨bo,bc,rfl,bs⟩,g3⟩
 have BS3:Hid (BS w3 bo 77 (lf B)):=bs
 have G3:Hid (Gw w w3):=G2.out.trans g3
 clear bs g3 PU G2
 go_wp2_with fail
 refine Calls.mono (jget HH.out bo 77 bc (lf B) (by decide) (.few (by decide)) w3 BS3.out) ?_
 rintro e w4 ⟨hG,g4⟩
 rcases hG with ⟨_,px,Sx,rfl,hSx,hrx,_⟩ | ⟨nf,_⟩
 rotate_left
 ·exact absurd FT.out nf
 have R4:Hid (HR w4 px Sx (numR (lf B) 4 8) (kF (lf B)) (vF (lf B)) (gF (lf B)) (nF (lf B)) (LF (lf B))):=hrx
 have G4:Hid (Gw w w4):=G3.out.trans g4
 clear hSx hrx g4 G3 BS3 FT
 go_wp2_with fail
 refine Calls.mono (jget HH.out none 0 0 (fun _=>0) (by decide) (.few (by decide)) w4 (bs_nil _ _ _)) ?_
 rintro e w5 ⟨hG,g5⟩
 rcases hG with ⟨ft,_⟩ | ⟨_,rfl⟩
 ·exact absurd ft.1.hd.1 (by decide)
 have R5:Hid (HR w5 px Sx (numR (lf B) 4 8) (kF (lf B)) (vF (lf B)) (gF (lf B)) (nF (lf B)) (LF (lf B))):=HH.out.gw R4.out g5
 have G5:Hid (Gw w w5):=G4.out.trans g5
 clear R4 G4 g5
 have AT:Hid (Calls Tryz.prog 19 #[.pointer (some ⟨px,0,none⟩), .int .i64 0] w5 fun e w'=>e=.returned (.tuple #[.agg #[.int .u64 10, .int .u64 7, .bool false], .int .i64 0])∧Gw w5 w'):=(HH.out.at_ R5.out 0 (by decide) (by decide)).mono fun e w' ⟨a,b⟩=>by
  refine ⟨?_,b⟩
  obtain ⟨c1,c2,c3,c4⟩:=B2.out
  unfold atV at a
  rw [c1,if_pos (by decide)] at a
  rw [show ((0:Int).toNat)=0 from rfl,c2,c3,c4] at a
  exact a
 have LN:Hid (∀ W,Gw w5 W→Calls Tryz.prog 20 #[.pointer (some ⟨px,0,none⟩)] W fun e w'=>e=.returned (.int .i64 1)∧Gw W w'):=fun W g=>(HH.out.len (HH.out.gw R5.out g)).mono fun e w' ⟨a,b⟩=>⟨by rw [B2.out.1] at a;exact a,b⟩
 clear R5 B2
 go_wp2_with fail
 refine AT.out.mono ?_
 rintro e w6 ⟨rfl,g6⟩
 have G6:Hid (Gw w5 (w6.alloc (.cells #[.int .u64 10, .int .u64 7, .bool false] 39))):=g6.alloc _ _
 have FIN:Hid (Gw w (w6.alloc (.cells #[.int .u64 10, .int .u64 7, .bool false] 39))):=G5.out.trans G6.out
 clear g6 AT
 go_wp2_with fail
 refine (LN.out _ G6.out).mono ?_
 rintro e w7 ⟨rfl,g7⟩
 have FIN2:Hid (Gw w w7):=FIN.out.trans g7
 clear g7 LN
 go_wp2_with fail
 go_ret
 exact ⟨rfl,FIN2.out⟩
end Go.Proofs.YtinefkljjnepjabGreat
