/- What the statements of layer 12 are handed: entries, an eps, and levels told by bits or built: the program's run and the document's. -/
import Derived.Test.YtinefkljjnepjabGreatTVBuild
import Derived.Test.YtinefkljjnepjabGreatTPRd
import Derived.Test.YtinefkljjnepjabGreatTR1Of
import Derived.Test.YtinefkljjnepjabGreatTJS
namespace Go.Proofs.YtinefkljjnepjabGreat
open Go.RowKit
set_option linter.unusedVariables false
attribute [local go_sem] run_store_float
set_option maxRecDepth 10000 in
set_option maxHeartbeats 8000000 in
theorem of12 (eps:Int) (ao:Option Addr) (n cp:Nat) (own:Bool) (uo:Option Addr) (uc:Nat) (U:List (List Sg)) (hU:Short U) (w:World) (hv:UV w uo U) :
  Calls Tryz.prog 21 #[madeV ao n cp eps own uo U.length uc] w fun ex w'=>(∃ lo lc,ex=.returned (.slice lo U.length lc)∧VSf w' w.heap.size lo U∧U.length≤lc)∧Gw w w':=by
 have HV:Aside (UV w uo U):=hv
 have HU:Aside (Short U):=hU
 have us:=hU.1
 obtain ⟨un,hun⟩:∃ un,U.length=un:=⟨_,rfl⟩
 have UN:Aside (U.length=un):=hun
 rw [hun] at us ⊢
 clear hv hU hun
 have G0:Aside (Gw w (w.alloc (.cells #[.slice ao n cp, .int .i64 eps, .bool own, .slice uo un uc] 25))):=(Gw.refl w).alloc _ _
 have BK:Aside ((w.alloc (.cells #[.slice ao n cp, .int .i64 eps, .bool own, .slice uo un uc] 25)).heap[w.heap.size]?=some (.cells #[.slice ao n cp, .int .i64 eps, .bool own, .slice uo un uc] 25 (0,0))):=heap_alloc_new w _
 have G1:Aside (Gw w ((w.alloc (.cells #[.slice ao n cp, .int .i64 eps, .bool own, .slice uo un uc] 25)).alloc (.cells #[] 68))):=G0.out.alloc _ _
 have B1:Aside (((w.alloc (.cells #[.slice ao n cp, .int .i64 eps, .bool own, .slice uo un uc] 25)).alloc (.cells #[] 68)).heap[w.heap.size]?=some (.cells #[.slice ao n cp, .int .i64 eps, .bool own, .slice uo un uc] 25 (0,0))):=(heap_alloc_old _ _ (by simp)).trans BK.out
 have R1:Aside (((w.alloc (.cells #[.slice ao n cp, .int .i64 eps, .bool own, .slice uo un uc] 25)).alloc (.cells #[] 68)).ownsRow (w.heap.size+1) 68 1 (.slice (some ⟨w.heap.size+1,0,none⟩) 0 0) 0 []):=by
  have:=World.ownsRow_made (base:=w.heap.size+1) (e:=68) (size:=1) (w.alloc (.cells #[.slice ao n cp, .int .i64 eps, .bool own, .slice uo un uc] 25)) #[] 0 (by simp) (Nat.zero_le _) rfl
  simp at this
  exact this
 have V1:Aside (VI ((w.alloc (.cells #[.slice ao n cp, .int .i64 eps, .bool own, .slice uo un uc] 25)).alloc (.cells #[] 68)) (w.heap.size+1) (w.heap.size+1) [] (U.take 0)):=⟨by simp,fun i hi=>by simp at hi⟩
 obtain ⟨jj,hjj,jz,js,jby⟩:=info_parts info_sgs
 obtain ⟨ii,hii,hz,hs,hby⟩:=info_parts info_sg
 clear BK
 go_enter Tryz.func21,Tryz.ntmps21
 go_wp2_with fail
 generalize (w.alloc (.cells #[.slice ao n cp, .int .i64 eps, .bool own, .slice uo un uc] 25)).alloc (.cells #[] 68)=w1 at G1 B1 R1 V1 ⊢
 obtain ⟨mb,hmb⟩:∃ mb,w.heap.size=mb:=⟨_,rfl⟩
 have MB:Aside (w.heap.size=mb):=hmb
 rw [hmb] at B1 R1 V1 ⊢
 clear hmb
 go_loopg [3,4] un (fun gg s6 s7 wr=>∃ (i ob oc:Nat) (vals:List Value),s6=.slice (some ⟨ob,0,none⟩) i oc∧s7=.int .i64 i∧i≤un∧un-i≤gg∧Aside (wr.heap[mb]?=some (.cells #[.slice ao n cp, .int .i64 eps, .bool own, .slice uo un uc] 25 (0,0)))∧Aside (wr.ownsRow (mb+1) 68 1 (.slice (some ⟨ob,0,none⟩) i oc) i vals)∧Aside (VI wr (mb+1) ob vals (U.take i))∧Aside (Gw w wr))
 case atStart=>exact ⟨0,mb+1,0,[],rfl,rfl,Nat.zero_le _,by omega,B1,R1,V1,G1⟩
 case round =>
  clear B1 R1 V1 G1
  obtain ⟨i,ob,oc,vals,rfl,rfl,j1,j2,BB,R,V,G⟩:=hrel
  have mc0:wr.cell? ⟨mb,0,none⟩=some (.slice ao n cp):=by have:=BB.out;simp [World.cell?,this]
  have mc1:wr.cell? ⟨mb,1,none⟩=some (.int .i64 eps):=by have:=BB.out;simp [World.cell?,this]
  have mc3:wr.cell? ⟨mb,3,none⟩=some (.slice uo un uc):=by have:=BB.out;simp [World.cell?,this]
  have mlt:mb<wr.heap.size:=(Array.getElem?_eq_some_iff.1 BB.out).1
  by_cases ilt:i<un
  ·have ili:(i:Int)<(un:Int):=by omega
   obtain ⟨ub,uf,rfl,hub,huc⟩:=(HV.out.gw G.out).cells (by rw [UN.out];omega)
   obtain ⟨so,sc,q1,q2,q4⟩:=huc i (by rw [UN.out];exact ilt)
   have sl:=HU.out.2 i (by rw [UN.out];exact ilt)
   have TK:Aside (U.take (i+1)=U.take i++[U.getD i []]):=by
    show _=_
    rw [List.take_add_one,List.getElem?_eq_getElem (by rw [UN.out];exact ilt),List.getD_eq_getElem?_getD,List.getElem?_eq_getElem (by rw [UN.out];exact ilt)];rfl
   obtain ⟨l,hl⟩:∃ l,U.getD i []=l:=⟨_,rfl⟩
   rw [hl] at q1 q2 q4 sl TK
   obtain ⟨sn,hsn⟩:∃ sn,l.length=sn:=⟨_,rfl⟩
   have SN:Aside (l.length=sn):=hsn
   rw [hsn] at q1 q2 sl
   have UL:Aside (UG wr so l):=q4
   clear huc hl hsn q4
   have S4:Aside (SR (wr.alloc (.cells #[] 100)) wr.heap.size (.slice (some ⟨wr.heap.size,0,none⟩) 0 0) (l.take 0)):=sr_new wr wr.heap.size (Nat.le_refl _)
   have G4:Aside (Gw wr (wr.alloc (.cells #[] 100))):=(Gw.refl wr).alloc _ _
   obtain ⟨wS,hwS⟩:∃ wx,wx=wr:=⟨_,rfl⟩
   subst hwS
   go_wp2_with fail
   generalize wS.alloc (.cells #[] 100)=w4 at S4 G4 ⊢
   obtain ⟨lb0,hlb0⟩:∃ lb0,wS.heap.size=lb0:=⟨_,rfl⟩
   have L0:Aside (wS.heap.size=lb0):=hlb0
   rw [hlb0] at S4 ⊢
   clear hlb0
   go_loopg [5,6] sn (fun gg s8 s9 wr=>∃ (k lb lc:Nat),s8=.slice (some ⟨lb,0,none⟩) k lc∧s9=.int .i64 k∧k≤sn∧sn-k≤gg∧Aside (SR wr lb0 (.slice (some ⟨lb,0,none⟩) k lc) (l.take k))∧Aside (Gw wS wr))
   case atStart=>exact ⟨0,lb0,0,rfl,rfl,Nat.zero_le _,by omega,S4,G4⟩
   case round =>
    clear S4 G4
    obtain ⟨k,lb,lc,rfl,rfl,k1,k2,SRr,GT⟩:=hrel
    have mc3':wr.cell? ⟨mb,3,none⟩=some (.slice (some ⟨ub,uf,none⟩) un uc):=(GT.out.cell _ _ mlt).trans mc3
    have mlt':mb<wr.heap.size:=Nat.lt_of_lt_of_le mlt GT.out.size
    have q1':wr.cell? ⟨ub,uf+i,none⟩=some (.slice so sn sc):=(GT.out.cell _ _ hub).trans q1
    have hub':ub<wr.heap.size:=Nat.lt_of_lt_of_le hub GT.out.size
    have LT:(l.take k).length=k:=by rw [List.length_take,SN.out];omega
    by_cases klt:k<sn
    ·obtain ⟨bk,off,rfl,hbk,hc⟩:=(UL.out.gw GT.out).cells (by rw [SN.out];omega)
     have C:=hc k (by rw [SN.out];exact klt)
     have TL:Aside (l.take (k+1)=l.take k++[l.getD k sg0]):=by
      show _=_
      rw [List.take_add_one,List.getElem?_eq_getElem (by rw [SN.out];exact klt),List.getD_eq_getElem?_getD,List.getElem?_eq_getElem (by rw [SN.out];exact klt)];rfl
     obtain ⟨s,hs'⟩:∃ s,l.getD k sg0=s:=⟨_,rfl⟩
     rw [hs'] at C TL
     clear hc hs'
     obtain ⟨sk,ssl,sic,sfr,ste⟩:=s
     have c0:wr.cell? ⟨bk,off+k*5,none⟩=some (.int .u64 sk):=C.c0
     have c1:wr.cell? ⟨bk,off+k*5+1,none⟩=some (.int .u64 (ssl:Int)):=C.c1
     have c2:wr.cell? ⟨bk,off+k*5+2,none⟩=some (.int .u64 (sic:Int)):=C.c2
     have c3:wr.cell? ⟨bk,off+k*5+3,none⟩=some (.int .i64 sfr):=C.c3
     have c4:wr.cell? ⟨bk,off+k*5+4,none⟩=some (.int .i64 ste):=C.c4
     clear C
     have ff:=f64from
     have G5:Aside (Gw wS (wr.alloc (.cells #[.int .u64 sk, .int .u64 (ssl:Int), .int .u64 (sic:Int), .int .i64 sfr, .int .i64 ste] 114))):=GT.out.alloc _ _
     have S5:Aside (SR (wr.alloc (.cells #[.int .u64 sk, .int .u64 (ssl:Int), .int .u64 (sic:Int), .int .i64 sfr, .int .i64 ste] 114)) lb0 (.slice (some ⟨lb,0,none⟩) k lc) (l.take k)):=sr_gw SRr.out ((Gw.refl wr).alloc _ _)
     have X5:Aside ((wr.alloc (.cells #[.int .u64 sk, .int .u64 (ssl:Int), .int .u64 (sic:Int), .int .i64 sfr, .int .i64 ste] 114)).heap[wr.heap.size]?=some (.cells #[.int .u64 sk, .int .u64 (ssl:Int), .int .u64 (sic:Int), .int .i64 sfr, .int .i64 ste] 114 (0,0))):=heap_alloc_new wr _
     have mlt5:wr.heap.size≤(wr.alloc (.cells #[.int .u64 sk, .int .u64 (ssl:Int), .int .u64 (sic:Int), .int .i64 sfr, .int .i64 ste] 114)).heap.size:=by simp
     have SRr0:Aside (SR wr lb0 (.slice (some ⟨lb,0,none⟩) k lc) (l.take k)):=SRr
     clear SRr GT ff
     go_wp2_with fail
     generalize wr.alloc (.cells #[.int .u64 sk, .int .u64 (ssl:Int), .int .u64 (sic:Int), .int .i64 sfr, .int .i64 ste] 114)=w5 at G5 S5 X5 mlt5 ⊢
     obtain ⟨xb,hxb⟩:∃ xb,wr.heap.size=xb:=⟨_,rfl⟩
     rw [hxb] at X5 mlt5 ⊢
     have xbe:wr.heap.size=xb:=hxb
     clear hxb mc3' mlt' q1' hub' hbk c0 c1 c2 c3 c4
     have x0:w5.drew.cell? ⟨xb,0,none⟩=some (.int .u64 sk):=show w5.cell? ⟨xb,0,none⟩=some (.int .u64 sk) by have:=X5.out;simp [World.cell?,this]
     have x1:w5.drew.cell? ⟨xb,1,none⟩=some (.int .u64 (ssl:Int)):=show w5.cell? ⟨xb,1,none⟩=some (.int .u64 (ssl:Int)) by have:=X5.out;simp [World.cell?,this]
     have x2:w5.drew.cell? ⟨xb,2,none⟩=some (.int .u64 (sic:Int)):=show w5.cell? ⟨xb,2,none⟩=some (.int .u64 (sic:Int)) by have:=X5.out;simp [World.cell?,this]
     have x3:w5.drew.cell? ⟨xb,3,none⟩=some (.int .i64 sfr):=show w5.cell? ⟨xb,3,none⟩=some (.int .i64 sfr) by have:=X5.out;simp [World.cell?,this]
     have x4:w5.drew.cell? ⟨xb,4,none⟩=some (.int .i64 ste):=show w5.cell? ⟨xb,4,none⟩=some (.int .i64 ste) by have:=X5.out;simp [World.cell?,this]
     have ff:=f64from
     have SRi:Aside (w5.drew.ownsRow lb0 100 5 (.slice (some ⟨lb,0,none⟩) k lc) k ((l.take k).flatMap sgc)):=by
      have:=S5.out
      unfold SR at this
      rw [LT] at this
      exact this
     have NS:Aside (∀ j u,(sgc (Sg.mk sk ssl sic sfr ste))[j]?=some u→(w5.drew.alloc (.cells #[.int .u64 sk, .float .f64 ssl, .float .f64 sic, .int .i64 sfr, .int .i64 ste] 100)).cell? ((⟨w5.heap.size,0,none⟩:Addr).add j)=some u):=new_sg w5.drew (Sg.mk sk ssl sic sfr ste)
     have lz:lb0≤w5.heap.size:=by have:=sr_lt S5.out lb rfl;omega
     have lbb:lb0≤lb:=(sr_lt S5.out lb rfl).1
     have SGV:Aside (Gw wS w5):=G5
     have xlt:xb<w5.heap.size:=(Array.getElem?_eq_some_iff.1 X5.out).1
     have nxb:lb≠xb:=fun e=>by
      have h1:=(sr_lt SRr0.out lb rfl).2
      omega
     have HX:Hid (∀ w':World,w'.heap[xb]?=some (.cells #[.int .u64 sk, .int .u64 (ssl:Int), .int .u64 (sic:Int), .int .i64 sfr, .int .i64 ste] 114 (0,0))→w'.heap[xb]?=some (.cells #[.int .u64 sk, .int .u64 (ssl:Int), .int .u64 (sic:Int), .int .i64 sfr, .int .i64 ste] 114 (0,0))∧w'.cell? ⟨xb,0,none⟩=some (.int .u64 sk)∧w'.cell? ⟨xb,1,none⟩=some (.int .u64 (ssl:Int))∧w'.cell? ⟨xb,2,none⟩=some (.int .u64 (sic:Int))∧w'.cell? ⟨xb,3,none⟩=some (.int .i64 sfr)∧w'.cell? ⟨xb,4,none⟩=some (.int .i64 ste)):=fun w' h=>⟨h,by simp [World.cell?,h],by simp [World.cell?,h],by simp [World.cell?,h],by simp [World.cell?,h],by simp [World.cell?,h]⟩
     clear x0 x1 x2 x3 x4
     go_region_held3 (fun w'=>w'.heap[xb]?=some (.cells #[.int .u64 sk, .int .u64 (ssl:Int), .int .u64 (sic:Int), .int .i64 sfr, .int .i64 ste] 114 (0,0))∧w'.cell? ⟨xb,0,none⟩=some (.int .u64 sk)∧w'.cell? ⟨xb,1,none⟩=some (.int .u64 (ssl:Int))∧w'.cell? ⟨xb,2,none⟩=some (.int .u64 (sic:Int))∧w'.cell? ⟨xb,3,none⟩=some (.int .i64 sfr)∧w'.cell? ⟨xb,4,none⟩=some (.int .i64 ste))
      ((refine HX.out _ ?_;(first | exact X5.out | exact Hid.out (by assumption) | exact And.left (by assumption) | exact (heap_alloc_old _ _ xlt).trans X5.out);done))
      (first | (refine step_append_any _ rfl (.tmp 35) (.tmp 49) 68 rfl lb0 100 ii _ 5 40 Tryz.underlying68 hii hz hs hby rfl (by decide) lb k lc ((l.take k).flatMap sgc) (by simp [Act.eval]) (SRi.out.alloc _) (some ⟨w5.heap.size,0,none⟩) 1 1 (sgc (Sg.mk sk ssl sic sfr ste)) (by simp [Act.eval]) (fun q=>by cases q) rfl (fun ad e'=>(by cases e';exact NS.out)) (sgc_one _) (by simp only [maxLen];omega) (by omega) (by simp<;>omega) ?_;intro b7 cap7 w7 r1 r2 r3 r4;have X7:Hid (w7.heap[xb]?=some (.cells #[.int .u64 sk, .int .u64 (ssl:Int), .int .u64 (sic:Int), .int .i64 sfr, .int .i64 ste] 114 (0,0))):=((r2.block xb (by simp;omega) (fun e=>nxb (by cases e;rfl))).trans ((heap_alloc_old _ _ xlt).trans X5.out));have Q7:Hid (Gw wS w7∧SR w7 lb0 (.slice (some ⟨b7,0,none⟩) (k+1) cap7) (l.take (k+1))):=⟨(SGV.out.drew.alloc _ _).grown r2 (fun k' hk=>by have e:lb=k':=(by simpa using hk);have:=L0.out;omega),(by show World.ownsRow _ _ _ _ _ _ _;rw [TL.out,List.length_append,LT,flat_one];exact r1)⟩;clear r1 r2 r3))
     all_goals go_wp2_with fail
     all_goals go_roundg (sn-(k+1))
     all_goals first
      | (case measure=>omega)
      | (case rel=>exact ⟨k+1,b7,cap7,rfl,by go_num,by omega,Nat.le_refl _,(show Aside _ from Q7.out.2),(show Aside _ from Q7.out.1)⟩)
    ·have ek:k=sn:=by omega
     subst ek
     have TT:l.take k=l:=List.take_of_length_le (by rw [SN.out];exact Nat.le_refl _)
     have S6:Aside (SR wr lb0 (.slice (some ⟨lb,0,none⟩) l.length lc) l):=by
      have:=SRr.out
      rw [TT] at this
      rw [SN.out]
      exact this
     have GL6:Aside (GS wr (some ⟨lb,0,none⟩) l):=sr_gs S6.out UL.out.ok
     have lbb:lb0≤lb∧lb<wr.heap.size:=sr_lt S6.out lb rfl
     have klc:k≤lc:=by
      have:=SRr.out
      unfold SR at this
      rw [LT] at this
      exact (own_slice this (by simp)).elim fun _ ⟨_,ev,_,h,_⟩=>by cases ev;exact h
     have obw:mb+1≤ob∧ob<wS.heap.size:=R.out.lt ob rfl
     have lob:lb≠ob:=by have:=L0.out;omega
     have R6:Aside (wr.ownsRow (mb+1) 68 1 (.slice (some ⟨ob,0,none⟩) i oc) i vals):=orow_gw R.out GT.out
     have V6:Aside (VI wr (mb+1) ob vals (U.take i)):=V.out.gw GT.out
     have G6:Aside (Gw w wr):=G.out.trans GT.out
     have z6:=GT.out.size
     clear SRr R V G S6
     go_wp2_with (at_builtin;refine wpList_append_own_at _ rfl _ _ 56 rfl (mb+1) 68 jj (.slice none 0 0) 1 24 Tryz.underlying56 hjj jz js jby rfl (by decide) _ i _ rfl (R6.out.alloc _) ⟨wr.heap.size,0,none⟩ 1 1 [(.slice (some ⟨lb,0,none⟩) k lc)] rfl rfl (new_val wr (.slice (some ⟨lb,0,none⟩) k lc) 68) (fun u hu=>by simp at hu;subst hu;rfl) (by simp only [maxLen];omega) (by omega) (by simp;omega) ?_)
     intro v' w8 r1 r2 r3 r4
     obtain ⟨b8,cap8,rfl,hb8,_,_⟩:=own_slice r1 (by simpa using r3)
     have ob8:b8=ob∨wr.heap.size≤b8:=by
      rcases r4 with q | q
      ·have q':b8=ob:=by simpa [Value.ownBlock] using q
       exact .inl q'
      ·have q':b8=wr.heap.size+1:=by simpa [Value.ownBlock] using q
       exact .inr (by omega)
     have r2':(wr.alloc (.cells #[(.slice (some ⟨lb,0,none⟩) k lc)] 68)).grownBy w8 (some ob):=r2
     have V8:Aside (VI w8 (mb+1) b8 (vals++[(.slice (some ⟨lb,0,none⟩) k lc)]) (U.take (i+1))):=by
      have:=V6.out.more r2' ob8 GL6.out (by rw [SN.out];exact klc) lob (by have:=L0.out;omega) lbb.2
      rw [SN.out] at this
      rw [TK.out]
      exact this
     have G8:Aside (Gw w w8):=(G6.out.alloc _ _).grown r2 (fun k' hk=>by have e:ob=k':=(by simpa [Value.ownBlock] using hk);have:=MB.out;omega)
     have BB8:Aside (w8.heap[mb]?=some (.cells #[.slice ao n cp, .int .i64 eps, .bool own, .slice (some ⟨ub,uf,none⟩) un uc] 25 (0,0))):=(r2'.block mb (by simp;omega) (fun e=>by cases e;omega)).trans ((heap_alloc_old wr _ mlt').trans ((GT.out.below.block mb mlt).trans BB.out))
     have R8:Aside (w8.ownsRow (mb+1) 68 1 (.slice (some ⟨b8,0,none⟩) (i+1) cap8) (i+1) (vals++[(.slice (some ⟨lb,0,none⟩) k lc)])):=r1
     clear r1 r2 r3 r4 r2' hb8 R6 V6 G6 GL6 GT
     go_wp2_with fail
     go_roundg (un-(i+1))
     case measure=>omega
     case rel=>exact ⟨i+1,b8,cap8,_,rfl,by go_num,by omega,Nat.le_refl _,BB8,R8,V8,G8⟩
  ·have ei:i=un:=by omega
   subst ei
   have TU:U.take i=U:=List.take_of_length_le (by rw [UN.out];exact Nat.le_refl _)
   have VV:Aside (VSf wr w.heap.size (some ⟨ob,0,none⟩) U):=by
    have V':=V.out
    rw [TU] at V'
    refine vsf_base (b:=mb+1) ⟨fun _=>⟨ob,0,rfl,(R.out.lt ob rfl),fun t ht=>?_⟩⟩ (by rw [MB.out];omega)
    obtain ⟨g',cap',v1,v2,_,v4,v5⟩:=V'.2 t ht
    refine ⟨some ⟨g',0,none⟩,cap',?_,v2,(fun e=>by cases e),v5,fun a e=>by cases e;exact v4⟩
    rw [Nat.zero_add,R.out.cellAt t (by rw [←UN.out];omega)]
    exact v1
   have oc1:i≤oc:=(own_slice R.out (by simp)).elim fun _ ⟨_,ev,_,h,_⟩=>by cases ev;exact h
   clear V R
   go_wp2_with fail
   go_ret
   exact ⟨⟨some ⟨ob,0,none⟩,oc,rfl,VV.out,oc1⟩,G.out⟩
def BothOutX (HR:World→Nat→(Nat→Prop)→Int→(Nat→Int)→(Nat→Int)→(Nat→Bool)→Nat→List (List Sg)→Prop) (w w':World) (ex:Ending) (eps:Int) (k v:Nat→Int) (g:Nat→Bool) (n:Nat) (own:Bool) (U:List (List Sg)):Prop :=
 ex=.returned (.tuple #[.pointer none, .pointer none, .bool true])∨∃ px Sx py Sy L,ex=.returned (.tuple #[.pointer (some ⟨px,0,none⟩), .pointer (some ⟨py,0,none⟩), .bool true])∧(∀ q,Sx q→w.heap.size≤q)∧(∀ q,Sy q→w.heap.size≤q)∧HR w' px Sx eps k v g n L∧HDoc w' py Sy eps k v g n L∧RunG eps k v g n L∧(own=true→L=U)∧(own=false→BuildR eps k n L)
set_option maxRecDepth 10000 in
set_option maxHeartbeats 8000000 in
theorem both12x {HR:World→Nat→(Nat→Prop)→Int→(Nat→Int)→(Nat→Int)→(Nat→Bool)→Nat→List (List Sg)→Prop} (H:RunC HR) (O5:Of5C) (eps:Int) (ao:Option Addr) (n cp:Nat) (k v:Nat→Int) (g:Nat→Bool) (own:Bool) (uo:Option Addr) (uc:Nat) (U:List (List Sg)) (e0:-9223372036854775808≤eps) (e1:eps<9223372036854775808) (hn:n≤2000000) (hcp:n≤cp) (hz:ao=none→n=0∧cp=0) (hU:Short U) (w:World) (h:ES w ao n k v g) (hv:UV w uo U) :
  Calls Tryz.prog 7 #[madeV ao n cp eps own uo U.length uc] w fun ex w'=>BothOutX HR w w' ex eps k v g n own U∧Gw w w':=by
 have HH:Hid (RunC HR):=H
 have HE:Hid (ES w ao n k v g):=h
 have HV:Hid (UV w uo U):=hv
 have HU:Hid (Short U):=hU
 have HZ:Hid (ao=none→n=0∧cp=0):=hz
 have O5H:Hid Of5C:=O5
 obtain ⟨un,hun⟩:∃ un,U.length=un:=⟨_,rfl⟩
 have UN:Hid (U.length=un):=hun
 have OFC:Hid (∀ W,Gw w W→Calls Tryz.prog 21 #[.agg #[.slice ao n cp, .int .i64 eps, .bool own, .slice uo un uc]] W fun ex w'=>(∃ lo lc,ex=.returned (.slice lo un lc)∧VSf w' W.heap.size lo U∧un≤lc)∧Gw W w'):=fun W gg=>by
  have:=of12 eps ao n cp own uo uc U HU.out W (HV.out.gw gg)
  rw [UN.out] at this
  exact this
 rw [hun]
 clear H h hv hU hz O5 hun
 have G0:Hid (Gw w (w.alloc (.cells #[.slice ao n cp, .int .i64 eps, .bool own, .slice uo un uc] 25))):=(Gw.refl w).alloc _ _
 have BK:Hid ((w.alloc (.cells #[.slice ao n cp, .int .i64 eps, .bool own, .slice uo un uc] 25)).heap[w.heap.size]?=some (.cells #[.slice ao n cp, .int .i64 eps, .bool own, .slice uo un uc] 25 (0,0))):=heap_alloc_new w _
 have CB:Hid (∀ W,Gw (w.alloc (.cells #[.slice ao n cp, .int .i64 eps, .bool own, .slice uo un uc] 25)) W→(W.cell? ⟨w.heap.size,0,none⟩=some (.slice ao n cp)∧W.cell? ⟨w.heap.size,1,none⟩=some (.int .i64 eps))∧w.heap.size<W.heap.size):=fun W gg=>by
  have hb:=(gg.below.block w.heap.size (by simp)).trans BK.out
  exact ⟨⟨by simp [World.cell?,hb],by simp [World.cell?,hb]⟩,(Array.getElem?_eq_some_iff.1 hb).1⟩
 cases own with
 | true =>
  go_enter Tryz.func7,Tryz.ntmps7
  go_wp2_with fail
  refine (OFC.out _ G0.out).mono ?_
  rintro e w1 ⟨⟨lo,lc,rfl,vs,hlc⟩,g1⟩
  have G1:Hid (Gw w w1):=G0.out.trans g1
  have G01:Hid (Gw (w.alloc (.cells #[.slice ao n cp, .int .i64 eps, .bool true, .slice uo un uc] 25)) w1):=g1
  have V1:Hid (VS w1 lo U):=vs.vs
  obtain ⟨⟨c0,c1⟩,l1⟩:=CB.out _ g1
  have OX:=HH.out.of eps ao n cp k v g lo lc U e0 e1 hn hcp HZ.out HU.out (by rw [UN.out];exact hlc) w1 (HE.out.gw G1.out) V1.out
  rw [UN.out] at OX
  have OXH:Hid (Calls Tryz.prog 22 #[.slice ao n cp, .int .i64 eps, .slice lo un lc] w1 fun ex w'=>OfOutR HR w1 w' ex eps k v g n U∧Gw w1 w'):=OX
  clear vs g1 OX OFC
  go_wp2_with fail
  refine OXH.out.mono ?_
  rintro e w2 ⟨⟨E,oe,x⟩,g2⟩
  have G2:Hid (Gw w w2):=G1.out.trans g2
  obtain ⟨⟨d0,d1⟩,l2⟩:=CB.out _ (G01.out.trans g2)
  have OE:Hid (OfE eps k v g n U E):=oe
  have OD:=dc_of eps ao n cp k v g lo lc U e0 e1 hn hcp HZ.out HU.out w2 (HE.out.gw G2.out) (V1.out.gw g2)
  rw [UN.out] at OD
  have ODH:Hid (Calls Tryz.prog 23 #[.slice ao n cp, .int .i64 eps, .slice lo un lc] w2 fun ex w'=>OfOutR HDoc w2 w' ex eps k v g n U∧Gw w2 w'):=OD
  have S2:Hid (w.heap.size≤w1.heap.size∧w.heap.size≤w2.heap.size):=⟨G1.out.size,G2.out.size⟩
  clear oe OD g2 OXH c0 c1 l1
  rcases x with ⟨ne,rfl⟩ | ⟨e0',px,Sx,rfl,hSx,hrx⟩
  ·go_wp2_with fail
   refine ODH.out.mono ?_
   rintro e w3 ⟨⟨E',oe',x⟩,g3⟩
   have ee:=oe'.one OE.out
   subst ee
   rcases x with ⟨_,rfl⟩ | ⟨z,_⟩
   rotate_left
   ·exact absurd z ne
   have G3:Hid (Gw w w3):=G2.out.trans g3
   clear g3 oe' ne ODH
   go_wp2_with fail
   exact bodyPost_ret (v:=.tuple #[.pointer none, .pointer none, .bool true]) (by simp [results,Tryz.results7,go_sem]) rfl ⟨.inl rfl,G3.out⟩
  ·subst e0'
   have RX:Hid (HR w2 px Sx eps k v g n U∧∀ q,Sx q→w1.heap.size≤q):=⟨hrx,hSx⟩
   clear hrx hSx
   go_wp2_with fail
   refine ODH.out.mono ?_
   rintro e w3 ⟨⟨E',oe',x⟩,g3⟩
   have ee:=oe'.one OE.out
   subst ee
   rcases x with ⟨z,_⟩ | ⟨_,py,Sy,rfl,hSy,hry⟩
   ·exact absurd rfl z
   have G3:Hid (Gw w w3):=G2.out.trans g3
   have FIN:Hid (BothOutX HR w w3 (.returned (.tuple #[.pointer (some ⟨px,0,none⟩), .pointer (some ⟨py,0,none⟩), .bool true])) eps k v g n true U):=.inr ⟨px,Sx,py,Sy,U,rfl,fun q hq=>Nat.le_trans S2.out.1 (RX.out.2 q hq),fun q hq=>Nat.le_trans S2.out.2 (hSy q hq),HH.out.gw RX.out.1 g3,hry,run_g HH.out RX.out.1 OE.out HE.out.bd,fun _=>rfl,(fun e=>by cases e)⟩
   clear g3 oe' ODH hSy hry
   go_wp2_with fail
   exact bodyPost_ret (v:=.tuple #[.pointer (some ⟨px,0,none⟩), .pointer (some ⟨py,0,none⟩), .bool true]) (by simp [results,Tryz.results7,go_sem]) rfl ⟨FIN.out,G3.out⟩
 | false =>
  clear OFC
  have NX:Hid (∀ W,Gw w W→Calls Tryz.prog 14 #[.slice ao n cp, .int .i64 eps] W fun ex w'=>RunOut HR W w' ex eps k v g n∧Gw W w'):=fun W gg=>HH.out.new eps ao n cp k v g e0 e1 hn hcp HZ.out W (HE.out.gw gg)
  have ND:Hid (∀ W,Gw w W→Calls Tryz.prog 24 #[.slice ao n cp, .int .i64 eps] W fun ex w'=>RunOut HDoc W w' ex eps k v g n∧Gw W w'):=fun W gg=>dc_new O5H.out eps ao n cp k v g e0 e1 hn hcp HZ.out W (HE.out.gw gg)
  go_enter Tryz.func7,Tryz.ntmps7
  go_wp2_with fail
  refine (NX.out _ G0.out).mono ?_
  rintro e w2 ⟨⟨E,oe,x⟩,g2⟩
  have G2:Hid (Gw w w2):=G0.out.trans g2
  obtain ⟨⟨d0,d1⟩,l2⟩:=CB.out _ g2
  have OE:Hid (NewE eps k v g n E):=oe
  have S1:Hid (w.heap.size≤(w.alloc (.cells #[.slice ao n cp, .int .i64 eps, .bool false, .slice uo un uc] 25)).heap.size∧w.heap.size≤w2.heap.size):=⟨G0.out.size,G2.out.size⟩
  clear oe g2 NX
  rcases x with ⟨ne,rfl⟩ | ⟨e0',px,Sx,L,rfl,hSx,bx,hrx⟩
  ·go_wp2_with fail
   refine (ND.out _ G2.out).mono ?_
   rintro e w3 ⟨⟨E',oe',x⟩,g3⟩
   have ee:=oe'.one OE.out
   subst ee
   rcases x with ⟨_,rfl⟩ | ⟨z,_⟩
   rotate_left
   ·exact absurd z ne
   have G3:Hid (Gw w w3):=G2.out.trans g3
   clear g3 oe' ne ND
   go_wp2_with fail
   exact bodyPost_ret (v:=.tuple #[.pointer none, .pointer none, .bool true]) (by simp [results,Tryz.results7,go_sem]) rfl ⟨.inl rfl,G3.out⟩
  ·subst e0'
   have RX:Hid (HR w2 px Sx eps k v g n L∧BuildR eps k n L∧∀ q,Sx q→w.heap.size≤q):=⟨hrx,bx,fun q hq=>Nat.le_trans S1.out.1 (hSx q hq)⟩
   clear hrx hSx bx
   go_wp2_with fail
   refine (ND.out _ G2.out).mono ?_
   rintro e w3 ⟨⟨E',oe',x⟩,g3⟩
   have ee:=oe'.one OE.out
   subst ee
   rcases x with ⟨z,_⟩ | ⟨_,py,Sy,L',rfl,hSy,by',hry⟩
   ·exact absurd rfl z
   have eL:=by'.one RX.out.2.1
   subst eL
   have G3:Hid (Gw w w3):=G2.out.trans g3
   have FIN:Hid (BothOutX HR w w3 (.returned (.tuple #[.pointer (some ⟨px,0,none⟩), .pointer (some ⟨py,0,none⟩), .bool true])) eps k v g n false U):=.inr ⟨px,Sx,py,Sy,L',rfl,RX.out.2.2,fun q hq=>Nat.le_trans S1.out.2 (hSy q hq),HH.out.gw RX.out.1 g3,hry,run_g HH.out RX.out.1 (new_of OE.out by' hn HE.out.bd) HE.out.bd,(fun e=>by cases e),fun _=>by'⟩
   clear g3 oe' ND hSy hry by'
   go_wp2_with fail
   exact bodyPost_ret (v:=.tuple #[.pointer (some ⟨px,0,none⟩), .pointer (some ⟨py,0,none⟩), .bool true]) (by simp [results,Tryz.results7,go_sem]) rfl ⟨FIN.out,G3.out⟩
end Go.Proofs.YtinefkljjnepjabGreat
