/- Package codec: the reader's levels. -/
import Derived.Test.YtinefkljjnepjabGreatWPY2
import Derived.Test.YtinefkljjnepjabGreatWJR2
namespace Go.Proofs.YtinefkljjnepjabGreat
open Go.RowKit
set_option linter.unusedVariables false
attribute [local go_sem] run_store_float
theorem OwnV.putU {w w1:World} {B g cap i:Nat} {L:List (List Sg)} {vals:List Value} {vl:Value} {lv:List Sg} (h0:OwnV w B (.slice (some ⟨g,0,none⟩) L.length cap) L vals) (h:OwnV w1 B (.slice (some ⟨g,0,none⟩) L.length cap) L vals) (hs:SR w1 w.heap.size vl lv) (hB:B≤w.heap.size) (hi:i<L.length):OwnV (w1.setCell ⟨g,i,none⟩ vl) B (.slice (some ⟨g,0,none⟩) (L.set i lv).length cap) (L.set i lv) (vals.set i vl):=by
  have vn:=h0.len
  have gl:g<w.heap.size:=(h0.outer.lt g rfl).2
  have lq:∀ q,vl.ownBlock=some q→w.heap.size≤q:=fun q hq=>(sr_lt hs q hq).1
  have oq:∀ j,j<L.length→∀ q,(vals.getD j nilS).ownBlock=some q→q<w.heap.size:=fun j hj q hq=>(sr_lt (h0.rows j hj) q hq).2
  have oth:∀ q,q≠g→(w1.setCell ⟨g,i,none⟩ vl).heap[q]?=w1.heap[q]?:=fun q hq=>Go.Deep.blk_setCell_other _ _ _ _ hq
  have gs:∀ j,j≠i→(vals.set i vl).getD j nilS=vals.getD j nilS∧(L.set i lv).getD j []=L.getD j []:=fun j hj=>by
    constructor
    · simp [List.getD,List.getElem?_set_ne (Ne.symm hj)]
    · simp [List.getD,List.getElem?_set_ne (Ne.symm hj)]
  have ge:(vals.set i vl).getD i nilS=vl∧(L.set i lv).getD i []=lv:=by
    constructor
    · simp [List.getD,List.getElem?_set_self (show i<vals.length by omega)]
    · simp [List.getD,List.getElem?_set_self hi]
  refine ⟨?_,fun j hj=>?_,fun j hj q hq=>?_⟩
  · rw [List.length_set]
    exact (h.outer.stored i vl).1
  · rw [List.length_set] at hj
    by_cases e:j=i
    · subst e
      rw [ge.1,ge.2]
      exact sr_low (sr_keep hs fun q hq=>oth q (by have:=lq q hq;omega)) hB
    · rw [(gs j e).1,(gs j e).2]
      exact sr_keep (h.rows j hj) fun q hq=>oth q (fun x=>(h0.apart j hj q hq).1 (by rw [x];rfl))
  · rw [List.length_set] at hj ⊢
    by_cases e:j=i
    · subst e
      rw [ge.1] at hq
      have q1:=lq q hq
      refine ⟨fun x=>?_,fun m hm hmq=>?_⟩
      · have:g=q:=by simpa [Value.ownBlock] using x
        omega
      · by_cases e2:m=j
        · exact e2
        · rw [(gs m e2).1] at hmq
          have:=oq m hm q hmq
          omega
    · rw [(gs j e).1] at hq
      have q1:=oq j hj q hq
      have ap:=h0.apart j hj q hq
      refine ⟨fun x=>ap.1 (by
                                have:g=q:=by simpa [Value.ownBlock] using x
                                rw [this];rfl),fun m hm hmq=>?_⟩
      by_cases e2:m=i
      · subst e2
        rw [ge.1] at hmq
        have:=lq q hmq
        omega
      · rw [(gs m e2).1] at hmq
        exact ap.2 m hm hmq
theorem sr_facts {w:World} {base g n c:Nat} {l:List Sg} (h:SR w base (.slice (some ⟨g,0,none⟩) n c) l):g<w.heap.size∧(∀ j,j<l.length*5→∃ y,w.cell? ⟨g,j,none⟩=some y)∧∀ j,w.frozen? ⟨g,j,none⟩=false:=by
  rcases h.2 with ⟨e,_⟩ | ⟨g',cap,cur,e,hb,hh,hc,hm,hs,ht⟩
  · cases e
  · cases e
    refine ⟨(Array.getElem?_eq_some_iff.1 hh).1,fun j hj=>?_,fun j=>by simp [World.frozen?,hh]⟩
    have:j<cur.size:=by
      have:=Nat.mul_le_mul_right 5 hc
      omega
    exact ⟨cur[j],by simp [World.cell?,hh,this]⟩
theorem ov_facts {w:World} {base g n c:Nat} {L:List (List Sg)} {vals:List Value} (h:OwnV w base (.slice (some ⟨g,0,none⟩) n c) L vals):g<w.heap.size∧base≤g∧(∀ j,j<L.length→∃ y,w.cell? ⟨g,j,none⟩=some y)∧∀ j,w.frozen? ⟨g,j,none⟩=false:=by
  rcases h.outer.2 with ⟨e,_⟩ | ⟨g',cap,cur,e,hb,hh,hc,hm,hs,ht⟩
  · cases e
  · cases e
    refine ⟨(Array.getElem?_eq_some_iff.1 hh).1,hb,fun j hj=>?_,fun j=>by simp [World.frozen?,hh]⟩
    have:j<cur.size:=by omega
    exact ⟨cur[j],by simp [World.cell?,hh,this]⟩
theorem ks_row12 {w:World} {b n:Nat} {f:Nat→Int} (h:w.rowIs b 37 n (fun i=>.int .u64 (f i))) (bd:∀ i,i<n→0≤f i∧f i<18446744073709551616):KS w (some ⟨b,0,none⟩) n f :=
  ⟨fun h0=>⟨b,0,rfl,h.lt,fun i hi=>by rw [Nat.zero_add,h.cell (by omega)]⟩,bd⟩
theorem KS.upd {w w':World} {bo:Option Addr} {n p:Nat} {f:Nat→Int} (h:KS w bo n f) (u:Upd p w w') (hb:∀ a,bo=some a→a.block≠p):KS w' bo n f :=
  ⟨fun h0=>by
    obtain ⟨b,off,e,hl,hc⟩:=h.cells h0
    exact ⟨b,off,e,Nat.lt_of_lt_of_le hl u.size,fun i hi=>(u.cell (hb _ e) hl _).trans (hc i hi)⟩,h.bd⟩
theorem num_bd8 {f:Nat→Int} {m o:Nat} (bd:∀ i,i<m→0≤f i∧f i<256) (ho:o+8≤m):0≤numR f o 8∧numR f o 8<18446744073709551616:=by
  have:=numR_bd (f:=f) (o:=o) (k:=8) (fun j hj=>bd _ (by omega))
  exact this
theorem LvFit.few {f:Nat→Int} {m o N:Nat} (h:LvFit f m o N):cF f o≤(m-(o+8))/24:=by
  cases hn:cF f o with
  | zero=>exact Nat.zero_le _
  | succ c =>
    have:=(h.seg c (by omega)).room
    omega
theorem frF_nn {f:Nat→Int} {m o N j:Nat} (bd:∀ i,i<m→0≤f i∧f i<256) (h:∀ t,t<j→SegFit f m o N t):0≤frF f o j:=by
  cases j with
  | zero=>exact Int.le_refl _
  | succ j =>
    have:=(h j (by omega)).room
    exact (num_bd8 bd (show o+8+24*j+8≤m by omega)).1
theorem lvF_ok {f:Nat→Int} {m o N:Nat} {key:Nat→Int} (bd:∀ i,i<m→0≤f i∧f i<256) (kb:∀ i,i<N→0≤key i∧key i<18446744073709551616) {c:Nat} (h:∀ t,t<c→SegFit f m o N t):∀ j,j<c→(sgF f o key j).ok:=by
  intro j hj
  have S:=h j hj
  have fr0:=frF_nn (j:=j) bd (fun t ht=>h t (by omega))
  have r:=S.room
  have a:=num_bd8 bd (show o+8+24*j+8≤m by omega)
  have b:=num_bd8 bd (show o+8+24*j+8+8≤m by omega)
  have d:=num_bd8 bd (show o+8+24*j+16+8≤m by omega)
  have t:=S.te
  have k:=kb _ S.fr
  have f1:frF f o j<9223372036854775808:=by
    cases j with
    | zero=>show (0:Int)<_;decide
    | succ i =>
      have:=(h i (by omega)).te
      show numR f (o+8+24*i) 8<_
      omega
  exact ⟨k.1,k.2,by show (numR f (o+8+24*j+8) 8).toNat<_;omega,by show (numR f (o+8+24*j+16) 8).toNat<_;omega,by show _≤frF f o j;omega,f1,by show _≤numR f (o+8+24*j) 8;omega,by show numR f (o+8+24*j) 8<_;omega⟩
set_option maxRecDepth 10000 in
set_option maxHeartbeats 8000000 in
theorem jlevel {w:World} {p:Nat} {S:Nat→Prop} {f:Nat→Int} {m o:Nat} (hm:m≤140737488355000) (cm:cF f o≤(m-(o+8))/24→cF f o≤2000000) (om:o≤m) (bd:∀ i,i<m→0≤f i∧f i<256) (bo:Option Addr) (N bc:Nat) (key:Nat→Int) (n1:N≤4000000) (kb:∀ a,bo=some a→a.block≠p) (hk:KS w bo N key) (h:Rd w p S f m o) :
    Calls Tryz.prog 71 #[.agg #[.pointer (some ⟨p,0,none⟩)], .slice bo N bc] w fun e w'=>(LvFit f m o N∧∃ b,e=.returned (.slice (some ⟨b,0,none⟩) (cF f o) (cF f o))∧SR w' w.heap.size (.slice (some ⟨b,0,none⟩) (cF f o) (cF f o)) (lvF f o key)∧RStep w w' p S f m (o+8+24*cF f o))∨(¬ LvFit f m o N∧e=.panicked (thrown 120)∧Upd p w w'):=by
  have pl:=h.pl
  have FZz:Hid (∀ q,S q→q<w.heap.size):=fun q hq=>RRd.lt h q hq
  have UA:Hid (Upd p w (w.alloc (.cells #[.pointer (some ⟨p,0,none⟩)] 74))):=.of_gw ((Gw.refl w).alloc _ _)
  have IT:=jitems 24 (by omega) (by omega) hm om (h.gw ((Gw.refl w).alloc #[.pointer (some ⟨p,0,none⟩)] 74))
  have b0:(w.alloc (.cells #[.pointer (some ⟨p,0,none⟩)] 74)).heap[w.heap.size]?=some (.cells #[.pointer (some ⟨p,0,none⟩)] 74 (0,0)):=heap_alloc_new w _
  have C1:Hid (Calls Tryz.prog 69 #[.agg #[.pointer (some ⟨p,0,none⟩)], .int .i64 24] (w.alloc (.cells #[.pointer (some ⟨p,0,none⟩)] 74)) fun e w'=>(((o+8≤m∧numR f o 8≤4294967296)∧cF f o≤(m-(o+8))/24)∧e=.returned (.int .i64 (cF f o:Int))∧RStep w w' p S f m (o+8)∧w'.heap[w.heap.size]?=some (.cells #[.pointer (some ⟨p,0,none⟩)] 74 (0,0)))∨(¬ LvFit f m o N∧e=.panicked (thrown 120)∧Upd p w w')):=IT.mono fun e w' hh=>by
    rcases hh with ⟨a,b,c⟩ | ⟨a,b,c⟩
    · exact .inl ⟨a,b,RStep.after UA.out (fun _ h=>h) c,(c.1.blk _ (by omega) (by simp)).trans b0⟩
    · exact .inr ⟨fun t=>a ⟨⟨t.room,t.cnt⟩,t.few⟩,b,UA.out.trans c⟩
  have BDH:Hid (∀ i,i<m→0≤f i∧f i<256):=bd
  have HK:Hid (KS w bo N key):=hk
  have KB:Hid (∀ a,bo=some a→a.block≠p):=kb
  clear h IT b0 UA bd hk kb
  go_enter Tryz.func71,Tryz.ntmps71
  go_wp2_with fail
  refine C1.out.mono ?_
  rintro e w2 hh
  clear C1
  rcases hh with ⟨⟨a1,a2⟩,rfl,R,B2⟩ | ⟨a,rfl,R⟩
  · have A1:Hid (o+8≤m∧numR f o 8≤4294967296):=a1
    have c1:=cm a2
    have LL:=lvF_len f o key
    obtain ⟨n,hn⟩:∃ n,cF f o=n:=⟨_,rfl⟩
    have HN:Hid (cF f o=n):=hn
    have LV:Hid ((lvF f o key).length=n∧∀ j,j<n→(lvF f o key).getD j sg0=sgF f o key j):=⟨by rw [LL,hn],fun j hj=>lvF_at f o key (by omega)⟩
    rw [hn] at c1 ⊢
    have hmk:=made_sgm n (by omega) w2
    have sz2:w.heap.size<w2.heap.size:=(Array.getElem?_eq_some_iff.1 B2).1
    have SR0:Hid (SR (w2.alloc (.cells (madeCells #[.int .u64 0, .float .f64 0, .float .f64 0, .int .i64 0, .int .i64 0] (n*5)) 100)) w.heap.size (.slice (some ⟨w2.heap.size,0,none⟩) n n) (fillT (lvF f o key) sg0 0)):=by
      show SR _ _ _ _
      rw [fillT_zero,LV.out.1]
      exact sr_low (sr_made w2 n (by omega)) (by omega)
    have ST0:Hid (RStep w (w2.alloc (.cells (madeCells #[.int .u64 0, .float .f64 0, .float .f64 0, .int .i64 0, .int .i64 0] (n*5)) 100)) p S f m (o+8+24*0)):=R.gw ((Gw.refl w2).alloc _ _)
    have BX0:Hid ((w2.alloc (.cells (madeCells #[.int .u64 0, .float .f64 0, .float .f64 0, .int .i64 0, .int .i64 0] (n*5)) 100)).heap[w.heap.size]?=some (.cells #[.pointer (some ⟨p,0,none⟩)] 74 (0,0))):=(((Gw.refl w2).alloc _ _).below.block _ sz2).trans B2
    obtain ⟨b,hb⟩:∃ b,b=w2.heap.size:=⟨_,rfl⟩
    have bw:w.heap.size<b:=by omega
    clear R B2 hn a1 a2 LL cm
    go_wp2_with fail
    rw [←hb] at SR0 ⊢
    generalize w2.alloc (.cells (madeCells #[.int .u64 0, .float .f64 0, .float .f64 0, .int .i64 0, .int .i64 0] (n*5)) 100)=w3 at SR0 ST0 BX0 ⊢
    clear hb hmk sz2
    go_loopg [6,16] n (fun gg s6 s16 wr=>∃ i:Nat,s6=.int .i64 (frF f o i)∧s16=.int .i64 i∧i≤n∧n-i≤gg∧Hid (SR wr w.heap.size (.slice (some ⟨b,0,none⟩) n n) (fillT (lvF f o key) sg0 i))∧Hid (RStep w wr p S f m (o+8+24*i))∧Hid (wr.heap[w.heap.size]?=some (.cells #[.pointer (some ⟨p,0,none⟩)] 74 (0,0)))∧Hid (o+8+24*i≤m)∧Hid (∀ t,t<i→SegFit f m o N t))
    case atStart=>exact ⟨0,rfl,rfl,Nat.zero_le _,by omega,SR0,ST0,BX0,(show Hid _ from A1.out.1),(show Hid _ from fun t ht=>by omega)⟩
    case round =>
      clear SR0 ST0 BX0
      obtain ⟨i,rfl,rfl,h1,h2,RI,SI,BI,OI,EI⟩:=hrel
      by_cases hlt:i<n
      · have f0:=frF_nn (j:=i) BDH.out EI.out
        obtain ⟨fr,hfr⟩:∃ fr:Nat,frF f o i=(fr:Int):=⟨(frF f o i).toNat,by omega⟩
        have HF:Hid (frF f o i=(fr:Int)):=hfr
        rw [hfr]
        obtain ⟨u,Si,ri,subi⟩:=SI.out
        have UI:Hid (Upd p w wr):=u
        have bl:=(sr_facts RI.out).1
        have xl:w.heap.size<wr.heap.size:=(Array.getElem?_eq_some_iff.1 BI.out).1
        obtain ⟨x0,_⟩:=rd_cell BI.out
        have KE:Hid (∀ w5,Upd p wr w5→(w5.cell? ⟨w.heap.size,0,none⟩=some (.pointer (some ⟨p,0,none⟩))∧w.heap.size<w5.heap.size)∧w5.heap[w.heap.size]?=some (.cells #[.pointer (some ⟨p,0,none⟩)] 74 (0,0))∧SR w5 w.heap.size (.slice (some ⟨b,0,none⟩) n n) (fillT (lvF f o key) sg0 i)∧KS w5 bo N key):=fun w5 u5=>by
          have e:=(u5.blk _ (by omega) xl).trans BI.out
          exact ⟨⟨(rd_cell e).1,(Array.getElem?_eq_some_iff.1 e).1⟩,e,sr_keep RI.out (fun q hq=>u5.blk q (by
                                                                                                                  have:b=q:=by simpa [Value.ownBlock] using hq
                                                                                                                  omega) (by
                                                                                                                             have:b=q:=by simpa [Value.ownBlock] using hq
                                                                                                                             omega)),HK.out.upd (UI.out.trans u5) KB.out⟩
        by_cases q:fr<N
        · have tq:decide ((fr:Int)<(N:Int))=true:=by simpa using q
          have tq2:decide (fr<N)=true:=by simpa using q
          have CC:Hid (Calls Tryz.prog 35 #[.agg #[.pointer (some ⟨p,0,none⟩)], .int .i64 4294967296] wr fun e w'=>((o+8+24*i+8≤m∧numR f (o+8+24*i) 8≤4294967296)∧e=.returned (.int .i64 (numR f (o+8+24*i) 8))∧RStep wr w' p Si f m (o+8+24*i+8))∨(¬ LvFit f m o N∧e=.panicked (thrown 120)∧Upd p w w')):=(jcount 4294967296 (by decide) (by decide) hm OI.out ri).mono fun e w' hq=>by
            rcases hq with ⟨q1,q2,q3⟩ | ⟨q1,q2,q3⟩
            · exact .inl ⟨q1,q2,q3⟩
            · exact .inr ⟨fun t=>q1 (by have:=t.seg i (by rw [HN.out];exact hlt);have r:=this.room;exact ⟨by omega,this.te⟩),q2,UI.out.trans q3⟩
          have SB:Hid (∀ q,Si q→S q):=subi
          have QF:Hid (fr<N):=q
          clear u ri subi SI bl q
          go_wp2_with fail
          refine (jneed_ok _).mono ?_
          rintro e w4 ⟨rfl,hw⟩
          subst hw
          go_wp2_with fail
          refine CC.out.mono ?_
          rintro e w5 hq
          clear CC
          rcases hq with ⟨⟨q1,q1'⟩,rfl,q3⟩ | ⟨q1,rfl,q3⟩
          · obtain ⟨u5,S5,r5,sub5⟩:=q3
            have U5:Hid (Upd p w4 w5):=u5
            have T5:Hid (o+8+24*i+8≤m∧numR f (o+8+24*i) 8≤4294967296):=⟨q1,q1'⟩
            obtain ⟨⟨x5,l5⟩,_⟩:=KE.out w5 u5
            have F1:Hid (Calls Tryz.prog 109 #[.agg #[.pointer (some ⟨p,0,none⟩)]] w5 fun e w'=>((o+8+24*i+8+8≤m∧numR f (o+8+24*i+8) 8/4503599627370496%2048≠2047)∧e=.returned (.float .f64 (numR f (o+8+24*i+8) 8).toNat)∧RStep w5 w' p S5 f m (o+8+24*i+8+8))∨(¬ LvFit f m o N∧e=.panicked (thrown 120)∧Upd p w w')):=(jfloat hm q1 r5).mono fun e w' hq=>by
              rcases hq with ⟨q1,q2,q3⟩ | ⟨q1,q2,q3⟩
              · exact .inl ⟨q1,q2,q3⟩
              · exact .inr ⟨fun t=>q1 (by have:=t.seg i (by rw [HN.out];exact hlt);have r:=this.room;exact ⟨by omega,this.sl⟩),q2,(UI.out.trans U5.out).trans q3⟩
            have SB5:Hid (∀ q,S5 q→Si q):=sub5
            clear u5 r5 sub5 q1 q1' x0 xl
            go_wp2_with fail
            refine F1.out.mono ?_
            rintro e w6 hq
            clear F1
            rcases hq with ⟨⟨q1,q1'⟩,rfl,q3⟩ | ⟨q1,rfl,q3⟩
            · obtain ⟨u6,S6,r6,sub6⟩:=q3
              have U6:Hid (Upd p w4 w6):=U5.out.trans u6
              have T6:Hid (o+8+24*i+8+8≤m∧numR f (o+8+24*i+8) 8/4503599627370496%2048≠2047):=⟨q1,q1'⟩
              obtain ⟨⟨x6,l6⟩,_⟩:=KE.out w6 U6.out
              have F2:Hid (Calls Tryz.prog 109 #[.agg #[.pointer (some ⟨p,0,none⟩)]] w6 fun e w'=>((o+8+24*i+8+8+8≤m∧numR f (o+8+24*i+16) 8/4503599627370496%2048≠2047)∧e=.returned (.float .f64 (numR f (o+8+24*i+16) 8).toNat)∧RStep w6 w' p S6 f m (o+8+24*(i+1)))∨(¬ LvFit f m o N∧e=.panicked (thrown 120)∧Upd p w w')):=(jfloat hm q1 r6).mono fun e w' hq=>by
                rw [show o+8+24*(i+1)=o+8+24*i+8+8+8 by omega,show o+8+24*i+16=o+8+24*i+8+8 by omega]
                rcases hq with ⟨q1,q2,q3⟩ | ⟨q1,q2,q3⟩
                · exact .inl ⟨q1,q2,q3⟩
                · exact .inr ⟨fun t=>q1 (by have:=t.seg i (by rw [HN.out];exact hlt);have r:=this.room;have s:=this.ic;rw [show o+8+24*i+16=o+8+24*i+8+8 by omega] at s;exact ⟨by omega,s⟩),q2,(UI.out.trans U6.out).trans q3⟩
              have SB6:Hid (∀ q,S6 q→S q):=fun q hq=>SB.out q (SB5.out q (sub6 q hq))
              clear u6 r6 sub6 q1 q1' x5 l5 U5 SB SB5
              go_wp2_with fail
              refine F2.out.mono ?_
              rintro e w7 hq
              clear F2
              rcases hq with ⟨⟨q1,q1'⟩,rfl,q3⟩ | ⟨q1,rfl,q3⟩
              · obtain ⟨_,BX7,SR7,KS7⟩:=KE.out w7 (U6.out.trans q3.1)
                obtain ⟨bk,off,rfl,hbk,hkc⟩:=KS7.cells (Nat.lt_of_le_of_lt (Nat.zero_le _) QF.out)
                have kc:=hkc fr QF.out
                obtain ⟨bl7,cell7,fz7⟩:=sr_facts SR7
                have fl:=fillT_len (lvF f o key) sg0 i (by rw [LV.out.1];exact h1)
                rw [LV.out.1] at fl
                obtain ⟨y0,z0⟩:=cell7 (i*5) (by rw [fl];omega)
                obtain ⟨y1,z1⟩:=cell7 (i*5+1) (by rw [fl];omega)
                obtain ⟨y2,z2⟩:=cell7 (i*5+2) (by rw [fl];omega)
                obtain ⟨y3,z3⟩:=cell7 (i*5+3) (by rw [fl];omega)
                obtain ⟨y4,z4⟩:=cell7 (i*5+4) (by rw [fl];omega)
                have g0:=fz7 (i*5)
                have g1:=fz7 (i*5+1)
                have g2:=fz7 (i*5+2)
                have g3:=fz7 (i*5+3)
                have g4:=fz7 (i*5+4)
                have SG:sgF f o key i=⟨key fr,(numR f (o+8+24*i+8) 8).toNat,(numR f (o+8+24*i+16) 8).toNat,(fr:Int),numR f (o+8+24*i) 8⟩:=by
                  unfold sgF teF
                  rw [HF.out,Int.toNat_natCast]
                have RN:Hid (SR (put5 w7 b (i*5) (sgF f o key i)) w.heap.size (.slice (some ⟨b,0,none⟩) n n) (fillT (lvF f o key) sg0 (i+1))):=by
                  show SR _ _ _ _
                  have s7:SR w7 w.heap.size (.slice (some ⟨b,0,none⟩) (fillT (lvF f o key) sg0 i).length n) (fillT (lvF f o key) sg0 i):=by rw [fl];exact SR7
                  have:=sr_put s7 (k:=i) (by rw [fl];exact hlt) (sgF f o key i)
                  rw [←LV.out.2 i hlt,fillT_set _ _ _ (by rw [LV.out.1];exact hlt),fillT_len _ _ _ (by rw [LV.out.1];omega),LV.out.1] at this
                  rw [←LV.out.2 i hlt]
                  exact this
                have SN:Hid (RStep w (put5 w7 b (i*5) (sgF f o key i)) p S f m (o+8+24*(i+1))):=by
                  have r:=RStep.after (UI.out.trans U6.out) SB6.out q3
                  exact ((((r.setN (by omega) FZz.out _ _).setN (by omega) FZz.out _ _).setN (by omega) FZz.out _ _).setN (by omega) FZz.out _ _).setN (by omega) FZz.out _ _
                have BN:Hid ((put5 w7 b (i*5) (sgF f o key i)).heap[w.heap.size]?=some (.cells #[.pointer (some ⟨p,0,none⟩)] 74 (0,0))):=(put5_other w7 b _ _ (by omega)).trans BX7
                rw [SG] at RN SN BN
                have EN:Hid (∀ t,t<i+1→SegFit f m o N t):=fun t ht=>by
                  by_cases c:t=i
                  · subst c
                    exact ⟨by omega,T5.out.2,T6.out.2,q1',by rw [HF.out,Int.toNat_natCast];exact QF.out⟩
                  · exact EI.out t (by omega)
                have ON:Hid (o+8+24*(i+1)≤m):=by show _≤_;omega
                have NX:Hid (frF f o (i+1)=numR f (o+8+24*i) 8):=rfl
                unfold put5 at RN SN BN
                simp only [] at RN SN BN
                generalize numR f (o+8+24*i) 8=te at *
                generalize (numR f (o+8+24*i+8) 8).toNat=sl at *
                generalize (numR f (o+8+24*i+16) 8).toNat=ic at *
                generalize key fr=kx at *
                have frN:(fr:Int)<(N:Int):=by have:=QF.out;omega
                clear SR7 KS7 BX7 q1 q1' q3 hkc cell7 fz7 fl SG x6 l6 RI KE EI T5 T6 U6 UI SB6
                go_wp2_with fail
                go_roundg (n-(i+1))
                case measure=>omega
                case rel=>exact ⟨i+1,by rw [NX.out],by go_num,by omega,Nat.le_refl _,RN,SN,BN,ON,EN⟩
              · have FIN:Hid (Upd p w w7):=q3
                have NO:Hid (¬ LvFit f m o N):=q1
                clear q1 q3 KE
                go_wp2_with fail
                exact ⟨rfl, .inr ⟨NO.out,rfl,FIN.out⟩⟩
            · have FIN:Hid (Upd p w w6):=q3
              have NO:Hid (¬ LvFit f m o N):=q1
              clear q1 q3 KE
              go_wp2_with fail
              exact ⟨rfl, .inr ⟨NO.out,rfl,FIN.out⟩⟩
          · have FIN:Hid (Upd p w w5):=q3
            have NO:Hid (¬ LvFit f m o N):=q1
            clear q1 q3 KE
            go_wp2_with fail
            exact ⟨rfl, .inr ⟨NO.out,rfl,FIN.out⟩⟩
        · have tq:decide ((fr:Int)<(N:Int))=false:=by simpa using q
          have tq2:decide (fr<N)=false:=by simpa using q
          have NO:Hid (¬ LvFit f m o N):=fun t=>q (by have:=(t.seg i (by rw [HN.out];exact hlt)).fr;rw [HF.out,Int.toNat_natCast] at this;exact this)
          clear u ri subi SI bl q KE
          go_wp2_with fail
          refine (jneed_bad _).mono ?_
          rintro e w4 ⟨rfl,hw⟩
          subst hw
          go_wp2_with fail
          exact ⟨rfl, .inr ⟨NO.out,rfl,UI.out⟩⟩
      · have ei:i=n:=by omega
        subst ei
        have FIN:Hid (LvFit f m o N∧SR wr w.heap.size (.slice (some ⟨b,0,none⟩) i i) (lvF f o key)):=⟨⟨A1.out.1,A1.out.2,fun t ht=>EI.out t (by rw [HN.out] at ht;exact ht)⟩,by
          have:=RI.out
          have e:=fillT_all (lvF f o key) sg0
          rw [LV.out.1] at e
          rw [e] at this
          exact this⟩
        clear RI EI
        go_wp2_with fail
        go_ret
        exact .inl ⟨FIN.out.1,b,by rw [HN.out];rfl,by rw [HN.out];exact FIN.out.2,by rw [HN.out];exact SI.out⟩
  · have FIN:Hid (Upd p w w2):=R
    have NO:Hid (¬ LvFit f m o N):=a
    clear R a
    go_wp2_with fail
    exact ⟨rfl, .inr ⟨NO.out,rfl,FIN.out⟩⟩
def LvsOK (f:Nat→Int) (m:Nat):Prop:=(lO f≤m∧numR f (eOff f (nF f)) 8≤4294967296)∧∀ l,l<hF f→LvFit f m (lOff f (lO f) l) (belowN f l)
theorem LvsOK.upto {f:Nat→Int} {m:Nat} (h:LvsOK f m):∀ l,l≤hF f→lOff f (lO f) l≤m:=by
  intro l hl
  cases l with
  | zero=>exact h.1.1
  | succ l =>
    have L:=h.2 l (by omega)
    have e:lOff f (lO f) (l+1)=lOff f (lO f) l+8+24*cF f (lOff f (lO f) l):=rfl
    have a:=L.room
    have b:=L.few
    omega
theorem LvsOK.few {f:Nat→Int} {m:Nat} (h:LvsOK f m):hF f≤(m-lO f)/8:=by
  have a:=h.upto (hF f) (Nat.le_refl _)
  have b:=lOff_mono f (lO f) (Nat.zero_le (hF f))
  have c:lOff f (lO f) 0=lO f:=rfl
  omega
theorem LF_at {f:Nat→Int} {i:Nat} (h:i<hF f):(LF f).getD i []=lvF f (lOff f (lO f) i) (rowF (kF f) (LF f) i):=lvsF_at f (hF f) (lO f) (kF f) i h
theorem LF_len (f:Nat→Int):(LF f).length=hF f:=lvsF_len f _ _ _
theorem belowN_eq {f:Nat→Int} {i:Nat} (h:i≤hF f):belowN f i=rowN (nF f) (LF f) i:=by
  unfold belowN rowN
  by_cases z:i=0
  · rw [if_pos z,if_pos z]
  · rw [if_neg z,if_neg z]
    exact (lvsF_atlen f (hF f) (lO f) (kF f) (i-1) (by omega)).symm
theorem LF_ok {f:Nat→Int} {m:Nat} (bd:∀ i,i<m→0≤f i∧f i<256) (kb:∀ i,i<nF f→0≤kF f i∧kF f i<18446744073709551616):∀ i,i≤hF f→(∀ l,l<i→LvFit f m (lOff f (lO f) l) (belowN f l))→(∀ l,l<i→∀ j,j<((LF f).getD l []).length→(((LF f).getD l []).getD j sg0).ok)∧∀ t,t<rowN (nF f) (LF f) i→0≤rowF (kF f) (LF f) i t∧rowF (kF f) (LF f) i t<18446744073709551616:=by
  intro i
  induction i with
  | zero=>intro _ _;exact ⟨fun l hl=>by omega,kb⟩
  | succ i ih =>
    intro hi h
    obtain ⟨a,b⟩:=ih (by omega) (fun l hl=>h l (by omega))
    have L:=h i (by omega)
    rw [belowN_eq (by omega)] at L
    have e:=LF_at (f:=f) (i:=i) (by omega)
    have ok:∀ j,j<((LF f).getD i []).length→(((LF f).getD i []).getD j sg0).ok:=fun j hj=>by
      rw [e] at hj ⊢
      rw [lvF_len] at hj
      rw [lvF_at _ _ _ hj]
      exact lvF_ok bd b L.seg j hj
    refine ⟨fun l hl=>?_,fun t ht=>?_⟩
    · by_cases c:l=i
      · subst c;exact ok
      · exact a l (by omega)
    · have e1:rowF (kF f) (LF f) (i+1)=fst8 ((LF f).getD i []):=by unfold rowF;rw [if_neg (by omega)];rfl
      have e2:rowN (nF f) (LF f) (i+1)=((LF f).getD i []).length:=by unfold rowN;rw [if_neg (by omega)];rfl
      rw [e2] at ht
      rw [e1]
      exact ⟨(ok t ht).k0,(ok t ht).k1⟩
set_option maxRecDepth 10000 in
set_option maxHeartbeats 8000000 in
theorem jlevels {w:World} {p:Nat} {S:Nat→Prop} {f:Nat→Int} {m:Nat} (hm:m≤140737488355000) (md:Mod f m) (om:eOff f (nF f)≤m) (bd:∀ i,i<m→0≤f i∧f i<256) (n1:nF f≤2000000) (bo:Option Addr) (bc:Nat) (kb:∀ a,bo=some a→a.block≠p) (hk:KS w bo (nF f) (kF f)) (h:Rd w p S f m (eOff f (nF f))) :
    Calls Tryz.prog 37 #[.agg #[.pointer (some ⟨p,0,none⟩)], .slice bo (nF f) bc] w fun e w'=>(LvsOK f m∧∃ b vals,e=.returned (.slice (some ⟨b,0,none⟩) (hF f) (hF f))∧OwnV w' w.heap.size (.slice (some ⟨b,0,none⟩) (hF f) (hF f)) (LF f) vals∧hF f≤2000000∧RStep w w' p S f m (lOff f (lO f) (hF f)))∨(¬ LvsOK f m∧e=.panicked (thrown 120)∧Upd p w w'):=by
  have pl:=h.pl
  have kbd:=hk.bd
  have FZz:Hid (∀ q,S q→q<w.heap.size):=fun q hq=>RRd.lt h q hq
  have UA:Hid (Upd p w (w.alloc (.cells #[.pointer (some ⟨p,0,none⟩)] 74))):=.of_gw ((Gw.refl w).alloc _ _)
  have IT:=jitems 8 (by omega) (by omega) hm om (h.gw ((Gw.refl w).alloc #[.pointer (some ⟨p,0,none⟩)] 74))
  have b0:(w.alloc (.cells #[.pointer (some ⟨p,0,none⟩)] 74)).heap[w.heap.size]?=some (.cells #[.pointer (some ⟨p,0,none⟩)] 74 (0,0)):=heap_alloc_new w _
  have C1:Hid (Calls Tryz.prog 69 #[.agg #[.pointer (some ⟨p,0,none⟩)], .int .i64 8] (w.alloc (.cells #[.pointer (some ⟨p,0,none⟩)] 74)) fun e w'=>(((lO f≤m∧numR f (eOff f (nF f)) 8≤4294967296)∧hF f≤(m-lO f)/8)∧e=.returned (.int .i64 (hF f:Int))∧RStep w w' p S f m (lO f)∧w'.heap[w.heap.size]?=some (.cells #[.pointer (some ⟨p,0,none⟩)] 74 (0,0)))∨(¬ LvsOK f m∧e=.panicked (thrown 120)∧Upd p w w')):=IT.mono fun e w' hh=>by
    rcases hh with ⟨a,b,c⟩ | ⟨a,b,c⟩
    · exact .inl ⟨a,b,RStep.after UA.out (fun _ h=>h) c,(c.1.blk _ (by omega) (by simp)).trans b0⟩
    · exact .inr ⟨fun t=>a ⟨t.1,t.few⟩,b,UA.out.trans c⟩
  have MD:Hid (Mod f m):=md
  have BDH:Hid (∀ i,i<m→0≤f i∧f i<256):=bd
  have HK:Hid (KS w bo (nF f) (kF f)):=hk
  have KBD:Hid (∀ i,i<nF f→0≤kF f i∧kF f i<18446744073709551616):=kbd
  have N1:Hid (nF f≤2000000):=n1
  have BW:Hid (∀ a,bo=some a→a.block≠p):=kb
  clear h IT b0 UA bd hk kb kbd md n1
  obtain ⟨n,hn⟩:∃ n,nF f=n:=⟨_,rfl⟩
  have HN:Hid (nF f=n):=hn
  rw [hn] at HK ⊢
  clear hn
  go_enter Tryz.func37,Tryz.ntmps37
  go_wp2_with fail
  refine C1.out.mono ?_
  rintro e w2 hh
  clear C1
  rcases hh with ⟨⟨a1,a2⟩,rfl,R,B2⟩ | ⟨a,rfl,R⟩
  · have A1:Hid (lO f≤m∧numR f (eOff f (nF f)) 8≤4294967296):=a1
    have c1:=MD.out.h1 a2
    obtain ⟨ht,hht⟩:∃ ht,hF f=ht:=⟨_,rfl⟩
    have HH:Hid (hF f=ht):=hht
    have LL:Hid ((LF f).length=ht):=by show _=_;rw [LF_len,hht]
    rw [hht] at c1 ⊢
    have hmk:=made_vsm ht (by omega) w2
    have sz2:w.heap.size<w2.heap.size:=(Array.getElem?_eq_some_iff.1 B2).1
    have OV0:Hid (∃ vals,OwnV (w2.alloc (.cells (madeCells #[.slice none 0 0] ht) 68)) w.heap.size (.slice (some ⟨w2.heap.size,0,none⟩) ht ht) (fillT (LF f) [] 0) vals):=by
      refine ⟨List.replicate ht nilS,?_⟩
      rw [fillT_zero,LL.out]
      exact (ownv_made w2 ht (by omega)).base (by omega)
    have ST0:Hid (RStep w (w2.alloc (.cells (madeCells #[.slice none 0 0] ht) 68)) p S f m (lOff f (lO f) 0)):=R.gw ((Gw.refl w2).alloc _ _)
    have BX0:Hid ((w2.alloc (.cells (madeCells #[.slice none 0 0] ht) 68)).heap[w.heap.size]?=some (.cells #[.pointer (some ⟨p,0,none⟩)] 74 (0,0))):=(((Gw.refl w2).alloc _ _).below.block _ sz2).trans B2
    have KS0:Hid (KS (w2.alloc (.cells (madeCells #[.slice none 0 0] ht) 68)) bo n (rowF (kF f) (LF f) 0)):=(HK.out.upd R.1 BW.out).gw ((Gw.refl w2).alloc _ _)
    obtain ⟨b,hb⟩:∃ b,b=w2.heap.size:=⟨_,rfl⟩
    have bw:w.heap.size<b:=by omega
    clear R B2 hht a1 a2 HK
    go_wp2_with fail
    rw [←hb] at OV0 ⊢
    generalize w2.alloc (.cells (madeCells #[.slice none 0 0] ht) 68)=w3 at OV0 ST0 BX0 KS0 ⊢
    clear hb hmk sz2
    go_loopg [1,12] ht (fun gg s1 s12 wr=>∃ (i:Nat) (ao:Option Addr) (ac:Nat),s1=.slice ao (belowN f i) ac∧s12=.int .i64 i∧i≤ht∧ht-i≤gg∧Hid (∃ vals,OwnV wr w.heap.size (.slice (some ⟨b,0,none⟩) ht ht) (fillT (LF f) [] i) vals)∧Hid (RStep w wr p S f m (lOff f (lO f) i))∧Hid (wr.heap[w.heap.size]?=some (.cells #[.pointer (some ⟨p,0,none⟩)] 74 (0,0)))∧Hid (KS wr ao (belowN f i) (rowF (kF f) (LF f) i))∧Hid (∀ a,ao=some a→a.block≠p)∧Hid (lOff f (lO f) i≤m)∧Hid (∀ l,l<i→LvFit f m (lOff f (lO f) l) (belowN f l))∧Hid (belowN f i≤2000000))
    case atStart=>exact ⟨0,bo,bc,by unfold belowN;rw [if_pos rfl,HN.out],rfl,Nat.zero_le _,by omega,OV0,ST0,BX0,(by unfold belowN;rw [if_pos rfl,HN.out];exact KS0),BW,(show Hid _ from A1.out.1),(show Hid _ from fun t ht=>by omega),(by unfold belowN;rw [if_pos rfl];exact N1)⟩
    case round =>
      clear OV0 ST0 BX0 KS0 BW
      obtain ⟨i,ao,ac,rfl,rfl,h1,h2,OI,SI,BI,KI,AI,MI,EI,NI⟩:=hrel
      by_cases hlt:i<ht
      · obtain ⟨vals,OV⟩:=OI.out
        obtain ⟨u,Si,ri,subi⟩:=SI.out
        have UI:Hid (Upd p w wr):=u
        obtain ⟨x0,_⟩:=rd_cell BI.out
        have xl:w.heap.size<wr.heap.size:=(Array.getElem?_eq_some_iff.1 BI.out).1
        have hiF:i<hF f:=by rw [HH.out];exact hlt
        have CL:Hid (Calls Tryz.prog 71 #[.agg #[.pointer (some ⟨p,0,none⟩)], .slice ao (belowN f i) ac] wr fun e w'=>(LvFit f m (lOff f (lO f) i) (belowN f i)∧∃ bl,e=.returned (.slice (some ⟨bl,0,none⟩) (cF f (lOff f (lO f) i)) (cF f (lOff f (lO f) i)))∧SR w' wr.heap.size (.slice (some ⟨bl,0,none⟩) (cF f (lOff f (lO f) i)) (cF f (lOff f (lO f) i))) ((LF f).getD i [])∧RStep wr w' p Si f m (lOff f (lO f) (i+1)))∨(¬ LvsOK f m∧e=.panicked (thrown 120)∧Upd p w w')):=(jlevel hm (MD.out.c1 i hiF) MI.out BDH.out ao (belowN f i) ac (rowF (kF f) (LF f) i) (by have:=NI.out;omega) AI.out KI.out ri).mono fun e w' hq=>by
          rcases hq with ⟨q1,bl,q2,q3,q4⟩ | ⟨q1,q2,q3⟩
          · exact .inl ⟨q1,bl,q2,by rw [LF_at hiF];exact q3,q4⟩
          · exact .inr ⟨fun t=>q1 (t.2 i hiF),q2,UI.out.trans q3⟩
        have bN:Hid (cF f (lOff f (lO f) i)=belowN f (i+1)):=by
          show _=_
          unfold belowN
          rw [if_neg (by omega)]
          rfl
        have OVH:Hid (OwnV wr w.heap.size (.slice (some ⟨b,0,none⟩) ht ht) (fillT (LF f) [] i) vals):=OV
        have SB:Hid (∀ q,Si q→S q):=subi
        clear u ri subi OV OI SI KI
        go_wp2_with fail
        refine CL.out.mono ?_
        rintro e w5 hq
        clear CL
        rcases hq with ⟨q1,bl,rfl,q3,q4⟩ | ⟨q1,rfl,q3⟩
        · have BX5:=(q4.1.blk _ (by omega) xl).trans BI.out
          have fl:=fillT_len (LF f) [] i (by rw [LL.out];exact h1)
          rw [LL.out] at fl
          have OV5:OwnV w5 w.heap.size (.slice (some ⟨b,0,none⟩) ht ht) (fillT (LF f) [] i) vals:=OVH.out.keep fun q hq hl=>q4.1.blk q (by omega) hl
          obtain ⟨bl5,_,cell5,fz5⟩:=ov_facts OV5
          obtain ⟨y0,z0⟩:=cell5 i (by rw [fl];exact hlt)
          have g0:=fz5 i
          have CN:cF f (lOff f (lO f) i)=((LF f).getD i []).length:=by rw [LF_at hiF,lvF_len]
          have OVN:Hid (∃ vals,OwnV (w5.setCell ⟨b,i,none⟩ (.slice (some ⟨bl,0,none⟩) (cF f (lOff f (lO f) i)) (cF f (lOff f (lO f) i)))) w.heap.size (.slice (some ⟨b,0,none⟩) ht ht) (fillT (LF f) [] (i+1)) vals):=by
            refine ⟨vals.set i (.slice (some ⟨bl,0,none⟩) (cF f (lOff f (lO f) i)) (cF f (lOff f (lO f) i))),?_⟩
            have o1:OwnV wr w.heap.size (.slice (some ⟨b,0,none⟩) (fillT (LF f) [] i).length ht) (fillT (LF f) [] i) vals:=by rw [fl];exact OVH.out
            have o2:OwnV w5 w.heap.size (.slice (some ⟨b,0,none⟩) (fillT (LF f) [] i).length ht) (fillT (LF f) [] i) vals:=by rw [fl];exact OV5
            have:=OwnV.putU o1 o2 q3 (by omega) (i:=i) (by rw [fl];exact hlt)
            rw [fillT_set _ _ _ (by rw [LL.out];exact hlt),fillT_len _ _ _ (by rw [LL.out];omega),LL.out] at this
            exact this
          have SN:Hid (RStep w (w5.setCell ⟨b,i,none⟩ (.slice (some ⟨bl,0,none⟩) (cF f (lOff f (lO f) i)) (cF f (lOff f (lO f) i)))) p S f m (lOff f (lO f) (i+1))):=(RStep.after UI.out SB.out q4).setN (by omega) FZz.out _ _
          have EN:Hid (∀ l,l<i+1→LvFit f m (lOff f (lO f) l) (belowN f l)):=fun l hl=>by
            by_cases c:l=i
            · subst c;exact q1
            · exact EI.out l (by omega)
          have OKS:=(LF_ok BDH.out KBD.out (i+1) (by omega) EN.out).1 i (by omega)
          have BDN:=(LF_ok BDH.out KBD.out (i+1) (by omega) EN.out).2
          have s3:=(sr_lt q3 bl rfl)
          have SG:SR w5 wr.heap.size (.slice (some ⟨bl,0,none⟩) ((LF f).getD i []).length (cF f (lOff f (lO f) i))) ((LF f).getD i []):=by rw [←CN];exact q3
          have GS5:GS (w5.setCell ⟨b,i,none⟩ (.slice (some ⟨bl,0,none⟩) (cF f (lOff f (lO f) i)) (cF f (lOff f (lO f) i)))) (some ⟨bl,0,none⟩) ((LF f).getD i []):=gs_kept (sr_gs SG OKS) (fun a ha=>by cases ha;exact Go.Deep.blk_setCell_other _ _ _ _ (by show bl≠b;have:=(ov_facts OVH.out).1;omega)) (by simp)
          have c2:cF f (lOff f (lO f) i)≤2000000:=MD.out.c1 i hiF q1.few
          have FI:Hid (Calls Tryz.prog 72 #[.slice (some ⟨bl,0,none⟩) (cF f (lOff f (lO f) i)) (cF f (lOff f (lO f) i))] (w5.setCell ⟨b,i,none⟩ (.slice (some ⟨bl,0,none⟩) (cF f (lOff f (lO f) i)) (cF f (lOff f (lO f) i)))) fun e w'=>(∃ b',e=.returned (.slice (some ⟨b',0,none⟩) (belowN f (i+1)) (belowN f (i+1)))∧w5.heap.size≤b'∧KS w' (some ⟨b',0,none⟩) (belowN f (i+1)) (rowF (kF f) (LF f) (i+1)))∧Gw (w5.setCell ⟨b,i,none⟩ (.slice (some ⟨bl,0,none⟩) (cF f (lOff f (lO f) i)) (cF f (lOff f (lO f) i)))) w'):=by
            have J:=jfirsts (some ⟨bl,0,none⟩) (cF f (lOff f (lO f) i)) ((LF f).getD i []) (by omega) _ GS5
            rw [←CN] at J
            refine J.mono fun e w' ⟨⟨b',j1,j2,j3⟩,j4⟩=>⟨⟨b',?_,by simpa using j2,?_⟩,j4⟩
            · rw [←bN.out];exact j1
            · rw [←belowN_eq (show i+1≤hF f by omega)] at BDN
              refine ks_row12 ?_ BDN
              rw [←bN.out]
              have e1:rowF (kF f) (LF f) (i+1)=fst8 ((LF f).getD i []):=by unfold rowF;rw [if_neg (by omega)];rfl
              rw [e1]
              exact j3
          have ON:Hid (lOff f (lO f) (i+1)≤m):=by
            show lOff f (lO f) i+8+24*cF f (lOff f (lO f) i)≤m
            have a:=q1.room
            have b:=q1.few
            omega
          have NN:Hid (belowN f (i+1)≤2000000):=by rw [←bN.out];exact c2
          have BN:Hid ((w5.setCell ⟨b,i,none⟩ (.slice (some ⟨bl,0,none⟩) (cF f (lOff f (lO f) i)) (cF f (lOff f (lO f) i)))).heap[w.heap.size]?=some (.cells #[.pointer (some ⟨p,0,none⟩)] 74 (0,0))):=(Go.Deep.blk_setCell_other _ _ _ _ (by show w.heap.size≠b;omega)).trans BX5
          have p5:p<w5.heap.size:=by have:=q4.1.size;omega
          clear GS5 OV5 SG q1 q3 q4 BX5 cell5 fz5 CN OKS BDN OVH s3 EI c2 fl
          generalize cF f (lOff f (lO f) i)=cc at *
          obtain ⟨nn,hnn⟩:∃ nn,belowN f (i+1)=nn:=⟨_,rfl⟩
          have NNE:Hid (belowN f (i+1)=nn):=hnn
          rw [hnn] at FI NN bN
          clear hnn
          go_wp2_with fail
          refine FI.out.mono ?_
          rintro e w6 ⟨⟨b',rfl,hb',ks6⟩,g6⟩
          have OV6:Hid (∃ vals,OwnV w6 w.heap.size (.slice (some ⟨b,0,none⟩) ht ht) (fillT (LF f) [] (i+1)) vals):=by
            obtain ⟨vals,ov⟩:=OVN.out
            exact ⟨vals,ov.gw g6⟩
          have SN6:Hid (RStep w w6 p S f m (lOff f (lO f) (i+1))):=SN.out.gw g6
          have BN6:Hid (w6.heap[w.heap.size]?=some (.cells #[.pointer (some ⟨p,0,none⟩)] 74 (0,0))):=(g6.below.block _ (Array.getElem?_eq_some_iff.1 BN.out).1).trans BN.out
          have KN6:Hid (KS w6 (some ⟨b',0,none⟩) nn (rowF (kF f) (LF f) (i+1))):=ks6
          have AN6:Hid (∀ a,(some ⟨b',0,none⟩:Option Addr)=some a→a.block≠p):=fun a ha=>by cases ha;show b'≠p;omega
          clear ks6 g6 FI OVN SN BN
          go_wp2_with fail
          go_roundg (ht-(i+1))
          case measure=>omega
          case rel=>exact ⟨i+1,some ⟨b',0,none⟩,nn,by rw [NNE.out],by go_num,by omega,Nat.le_refl _,OV6,SN6,BN6,(by rw [NNE.out];exact KN6),AN6,ON,EN,(by rw [NNE.out];exact NN)⟩
        · have FIN:Hid (Upd p w w5):=q3
          have NO:Hid (¬ LvsOK f m):=q1
          clear q1 q3
          go_wp2_with fail
          exact ⟨rfl, .inr ⟨NO.out,rfl,FIN.out⟩⟩
      · have ei:i=ht:=by omega
        subst ei
        have FIN:Hid (LvsOK f m∧∃ vals,OwnV wr w.heap.size (.slice (some ⟨b,0,none⟩) i i) (LF f) vals):=⟨⟨A1.out,fun l hl=>EI.out l (by rw [HH.out] at hl;exact hl)⟩,by
          obtain ⟨vals,ov⟩:=OI.out
          have e:=fillT_all (LF f) []
          rw [LL.out] at e
          rw [e] at ov
          exact ⟨vals,ov⟩⟩
        clear OI EI
        go_wp2_with fail
        go_ret
        obtain ⟨fa,vals,fb⟩:=FIN.out
        exact .inl ⟨fa,b,vals,by rw [HH.out];rfl,by rw [HH.out];exact fb,by rw [HH.out];exact c1,by rw [HH.out];exact SI.out⟩
  · have FIN:Hid (Upd p w w2):=R
    have NO:Hid (¬ LvsOK f m):=a
    clear R a
    go_wp2_with fail
    exact ⟨rfl, .inr ⟨NO.out,rfl,FIN.out⟩⟩
end Go.Proofs.YtinefkljjnepjabGreat
