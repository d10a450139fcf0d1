/- The document's layer 16: the live keys of lists. -/
import Derived.Laws.AppendOwnNone
import Derived.Test.YtpoohadckhphpaaGreatBIMem
set_option linter.unusedVariables false
set_option maxHeartbeats 8000000
set_option maxRecDepth 20000
open Go.Proofs.Tryz
namespace Go.Proofs.YtpoohadckhphpaaGreat
open Go.RowKit
theorem keep_len (e:Ent):(keepE e).length<=1:=by unfold keepE;split<;>simp
theorem ovr_len (a l:List Ent):(ovr a l).length<=a.length+l.length:=by
 refine ovr_step (P:=fun a l=>(ovr a l).length<=a.length+l.length) (fun a=>?_) (fun e r ih=>?_) (fun a as_ e r c ih=>?_) (fun a as_ e r c ih=>?_) (fun a as_ e r c ih=>?_) _ a l (Nat.le_refl _)
 ·rw [ovr_nil];exact Nat.le_refl _
 ·rw [ovr_new,List.length_append]
  have:=keep_len e
  simp only [List.length_nil,List.length_cons] at *;omega
 ·rw [ovr_lt _ _ c]
  simp only [List.length_cons] at *;omega
 ·rw [ovr_eq _ _ c,List.length_append]
  have:=keep_len e
  simp only [List.length_cons] at *;omega
 ·rw [ovr_gt _ _ c,List.length_append]
  have:=keep_len e
  simp only [List.length_cons] at *;omega
theorem lvs_lenF:∀ (L:List (List Ent)) (a:List Ent),(L.foldl ovr a).length<=a.length+sizes L
 | [],a=>Nat.le_add_right _ _
 | x::L,a=>by
  have:=lvs_lenF L (ovr a x)
  have:=ovr_len a x
  rw [List.foldl_cons,sizes_cons];omega
theorem lvs_len (L:List (List Ent)):(lvs L).length<=sizes L:=by have:=lvs_lenF L [];simpa [lvs] using this
theorem sizes_take16:∀ (L:List (List Ent)) (i:Nat),sizes (L.take i)<=sizes L
 | [],i=>by rw [List.take_nil];exact Nat.le_refl _
 | x::L,0=>Nat.zero_le _
 | x::L,i+1=>by rw [List.take_succ_cons,sizes_cons,sizes_cons];have:=sizes_take16 L i;omega
theorem lvs_memF {x:Ent}:∀ (L:List (List Ent)) (a:List Ent),x∈L.foldl ovr a->x∈a\/∃ l∈L,x∈l
 | [],a,h=>.inl h
 | y::L,a,h=>by
  rcases lvs_memF L (ovr a y) h with q | ⟨l,hl,q⟩
  ·rcases ovr_mem _ _ q with z | ⟨z,_⟩
   ·exact .inl z
   ·exact .inr ⟨y,List.mem_cons_self ..,z⟩
  ·exact .inr ⟨l,List.mem_cons_of_mem _ hl,q⟩
theorem lvs_mem {x:Ent} {L:List (List Ent)} (h:x∈lvs L):∃ l∈L,x∈l:=(lvs_memF L [] h).elim (fun q=>by cases q) id
theorem own_form13 {w:World} {base e size n:Nat} {v:Value} {xs:List Value} (h:w.ownsRow base e size v n xs):∃ ao c,v=.slice ao n c:=by
 rcases h.2 with ⟨e,z⟩ | ⟨g,cap,cur,e,_⟩
 ·exact ⟨none,0,by rw [e,z]⟩
 ·exact ⟨_,_,e⟩
theorem ent3_len (m:List Ent):(m.flatMap ent3).length=m.length*3:=by
 induction m with
 | nil=>rfl
 | cons x m ih=>rw [List.flatMap_cons,List.length_append,ih,List.length_cons];show 3+_=_;omega
theorem ent3s_one (m:List Ent):∀ u∈m.flatMap ent3,u.oneCell'=true:=fun u hu=>by
 obtain ⟨e,_,h⟩:=List.mem_flatMap.1 hu;exact ent3_one e u h
theorem size_at (L:List (List Ent)) {i:Nat} (hi:i<L.length):(lvs (L.take i)).length+(L.getD i []).length<=sizes L:=by
 have a:=lvs_len (L.take i);have b:=sizes_take16 L (i+1);have e:L.take (i+1)=L.take i++[L.getD i []]:=by
  rw [List.take_add_one,List.getElem?_eq_getElem hi,List.getD_eq_getElem?_getD,List.getElem?_eq_getElem hi];rfl
 have c:sizes (L.take i++[L.getD i []])=sizes (L.take i)+(L.getD i []).length:=by simp [sizes]
 rw [e,c] at b;omega
theorem lvs_next (L:List (List Ent)) {i:Nat} (hi:i<L.length):lvs (L.take (i+1))=ovr (lvs (L.take i)) (L.getD i []):=by
 have e:L.take (i+1)=L.take i++[L.getD i []]:=by
  rw [List.take_add_one,List.getElem?_eq_getElem hi,List.getD_eq_getElem?_getD,List.getElem?_eq_getElem hi];rfl
 rw [e,lvs_snoc]
theorem eo_drop {w:World} {base b cap n k:Nat} {l:List Ent} (h:EO w base (.slice (some ⟨b,0,none⟩) n cap) l) (hn:l.length=n) (hk:k<=n):∀ j u,((l.drop k).flatMap ent3)[j]?=some u->w.cell? ((⟨b,k*3,none⟩:Addr).add j)=some u:=by
 intro j u hu;have e:(l.flatMap ent3)[k*3+j]?=((l.drop k).flatMap ent3)[j]?:=by
  have fl:=ent3_len;have e0:l.flatMap ent3=(l.take k).flatMap ent3++(l.drop k).flatMap ent3:=by rw [<-List.flatMap_append,List.take_append_drop]
  rw [e0,List.getElem?_append_right (by rw [fl,List.length_take];omega),fl,List.length_take,Nat.min_eq_left (by omega),Nat.add_sub_cancel_left]
 have:=World.ownsRow.cells (g:=b) h rfl (k*3+j) u (by rw [e];exact hu)
 rw [Addr.add_lit] at this ⊢;rw [Nat.zero_add] at this;exact this
theorem rlive16 (ao:Option Addr) (c:Nat) (L:List (List Ent)) (hl:L.length<=2000000) (hN:sizes L<=2000000) (w:World) (h:EV w ao L) :
  Calls prog 55 #[.slice ao L.length c] w fun e w'=>(∃ ob oc,e=.returned (.slice ob (lvs L).length oc)/\EO w' w.heap.size (.slice ob (lvs L).length oc) (lvs L))/\Gw w w':=by
 have HE:Aside (EV w ao L):=h;have HN:Aside (sizes L<=2000000):=hN;have OKL:Aside (∀ l∈L,∀ x∈l,x.ok):=fun l hl' x hx=>by
  obtain ⟨i,hi,rfl⟩:=List.mem_iff_getElem.1 hl';obtain ⟨b,off,_,_,hc⟩:=h.cells (by omega)
  obtain ⟨bo,c',_,_,h3,_⟩:=hc i hi;have e:L.getD i []=L[i]:=by simp [List.getD,hi]
  rw [e] at h3;exact h3.all x hx
 obtain ⟨ln,hln⟩:∃ ln,L.length=ln:=⟨_,rfl⟩;have LN:Aside (L.length=ln):=hln;rw [hln] at hl ⊢;clear h hln hN;obtain ⟨ii,hii,hz,hs,hby⟩:=info_parts info_e;have E1:Aside (EO w w.heap.size (.slice none (lvs (L.take 0)).length 0) (lvs (L.take 0))):=World.ownsRow_nil _ _ _ _;go_enter func55,ntmps55;go_wp2_with fail;go_loopg [3,4] ln (fun gg s3 s4 wr=>∃ (i:Nat) (bo:Option Addr) (bc:Nat),s3=.slice bo (lvs (L.take i)).length bc/\s4=.int .i64 (i:Int)/\i<=ln/\ln-i<=gg/\Aside (EO wr w.heap.size (.slice bo (lvs (L.take i)).length bc) (lvs (L.take i)))/\Aside (Gw w wr))
 case atStart=>exact ⟨0,none,0,rfl,rfl,Nat.zero_le _,by omega,E1,(show Aside _ from Gw.refl w)⟩
 case round =>
  clear E1;obtain ⟨i,bo,bc,rfl,rfl,a1,a2,E0,G⟩:=hrel;by_cases ilt:i<ln
  ·have ilt':(i:Int)<(ln:Int):=by omega
   have hi:i<L.length:=by rw [LN.out];exact ilt
   obtain ⟨wS,hwS⟩:∃ wx,wx=wr:=⟨_,rfl⟩;subst hwS;have NX:Aside (lvs (L.take (i+1))=ovr (lvs (L.take i)) (L.getD i [])):=lvs_next L hi;have SZ:=size_at L hi;have hN':=HN.out;have OKA:∀ x∈lvs (L.take i),x.ok:=fun x hx=>by
    obtain ⟨l,hl',q⟩:=lvs_mem hx;exact OKL.out l (List.mem_of_mem_take hl') x q
   obtain ⟨A,hA⟩:∃ A,lvs (L.take i)=A:=⟨_,rfl⟩;rw [hA] at E0 NX SZ OKA ⊢;obtain ⟨l,hl'⟩:∃ l,L.getD i []=l:=⟨_,rfl⟩;have HL:Aside (L.getD i []=l):=hl';rw [hl'] at NX SZ;have HA:Aside (EL wS bo A):=eo_el E0.out OKA;obtain ⟨n,hn⟩:∃ n,A.length=n:=⟨_,rfl⟩;have AN:Aside (A.length=n):=hn;obtain ⟨m,hm⟩:∃ m,l.length=m:=⟨_,rfl⟩;have LM:Aside (l.length=m):=hm;rw [hn,hm] at SZ;rw [hn] at E0 ⊢;clear hl' hn hm hA OKA;obtain ⟨b0,hb0⟩:∃ b,wS.heap.size=b:=⟨_,rfl⟩;have B0:Aside (wS.heap.size=b0):=hb0;have Z0:Aside (EO wS b0 (.slice none 0 0) []):=World.ownsRow_nil _ _ _ _;clear hb0;go_wp2_with fail;go_loopg [5,6,7] m (fun gg s5 s6 s7 wr=>∃ (k j nn:Nat) (N:List Ent) (no:Option Addr) (nc:Nat),s5=.slice no nn nc/\s6=.int .i64 (k:Int)/\s7=.int .i64 (j:Int)/\k<=n/\j<=m/\m-j<=gg/\Aside (N.length=nn)/\Aside (EO wr b0 (.slice no nn nc) N)/\Aside (Gw wS wr)/\Aside (N++ovr (A.drop k) (l.drop j)=ovr A l))
   case atStart=>exact ⟨0,0,0,[],none,0,rfl,rfl,rfl,Nat.zero_le _,Nat.zero_le _,by omega,(show Aside _ from rfl),Z0,(show Aside _ from Gw.refl wS),(show Aside _ from by show _=_;simp)⟩
   case round =>
    clear Z0;obtain ⟨k,j,nn,N,no,nc,rfl,rfl,rfl,k1,j1,j2,NL,E,GG,KJ⟩:=hrel;by_cases jlt:j<m
    ·have jlt':(j:Int)<(m:Int):=by omega
     obtain ⟨wT,hwT⟩:∃ wx,wx=wr:=⟨_,rfl⟩;subst hwT;have XX:Aside (∃ xk xv xg,l.getD j ent0=⟨xk,xv,xg⟩):=⟨_,_,_,rfl⟩;obtain ⟨xk,xv,xg,hx⟩:=XX.out;have HX:Aside (l.getD j ent0=⟨xk,xv,xg⟩):=hx;clear XX hx;obtain ⟨lb,loff,rfl,hlb,hlc⟩:=HE.out.cells (by rw [LN.out];omega)
     obtain ⟨eo,ec,p1,p2,p3,_⟩:=hlc i hi;rw [HL.out,LM.out] at p1;rw [HL.out] at p3;obtain ⟨eb,eoff,rfl,heb,hec⟩:=p3.cells (by rw [LM.out];omega)
     obtain ⟨c0,c1,c2⟩:=hec j (by rw [LM.out];exact jlt)
     rw [HX.out] at c0 c1 c2;have CL:Hid (∀ W,Gw wS W->(W.cell? ⟨lb,loff+i,none⟩=some (.slice (some ⟨eb,eoff,none⟩) m ec)/\lb<W.heap.size)/\(W.cell? ⟨eb,eoff+j*3,none⟩=some (.int .u64 xk)/\W.cell? ⟨eb,eoff+j*3+1,none⟩=some (.int .u64 xv)/\W.cell? ⟨eb,eoff+j*3+2,none⟩=some (.bool xg))/\eb<W.heap.size):=fun W g=>by
      have g':=G.out.trans g;exact ⟨⟨(g'.cell _ _ hlb).trans p1,Nat.lt_of_lt_of_le hlb g'.size⟩,⟨(g'.cell _ _ heb).trans c0,(g'.cell _ _ heb).trans c1,(g'.cell _ _ heb).trans c2⟩,Nat.lt_of_lt_of_le heb g'.size⟩
     have AC:Hid (∀ W t,Gw wS W->t<n->∃ ab af,bo=some ⟨ab,af,none⟩/\ab<W.heap.size/\W.cell? ⟨ab,af+t*3,none⟩=some (.int .u64 (A.getD t ent0).k)/\W.cell? ⟨ab,af+t*3+1,none⟩=some (.int .u64 (A.getD t ent0).v)/\W.cell? ⟨ab,af+t*3+2,none⟩=some (.bool (A.getD t ent0).g)):=fun W t g ht=>by
      obtain ⟨ab,af,e,hab,hac⟩:=(HA.out.gw g).cells (by rw [AN.out];omega)
      obtain ⟨x0,x1,x2⟩:=hac t (by rw [AN.out];exact ht)
      exact ⟨ab,af,e,hab,x0,x1,x2⟩
     have jl:j<l.length:=by rw [LM.out];exact jlt
     clear hlc hec c0 c1 c2 p1 p2 p3 hlb heb;obtain ⟨⟨q1,q2⟩,_,q3⟩:=CL.out wT GG.out;go_wp2_with fail;clear q1 q2 q3;go_loopg [5,6] (n-k) (fun gg s5 s6 wr=>∃ (k nn:Nat) (N:List Ent) (no:Option Addr) (nc:Nat),s5=.slice no nn nc/\s6=.int .i64 (k:Int)/\k<=n/\n-k<=gg/\Aside (N.length=nn)/\Aside (EO wr b0 (.slice no nn nc) N)/\Aside (Gw wS wr)/\Aside (N++ovr (A.drop k) (l.drop j)=ovr A l))
     case atStart=>exact ⟨k,nn,N,no,nc,rfl,rfl,k1,Nat.le_refl _,NL,E,GG,KJ⟩
     case round =>
      clear NL E GG KJ k1;obtain ⟨k,nn,N,no,nc,rfl,rfl,k1,k2,NL,E,GG,KJ⟩:=hrel;obtain ⟨⟨q1,q2⟩,⟨d0,d1,d2⟩,q3⟩:=CL.out wr GG.out;have EOW:Aside (wr.ownsRow b0 81 3 (.slice no nn nc) nn (N.flatMap ent3)):=by
       have:=E.out
       unfold EO at this;rw [NL.out] at this;exact this
      have bz:b0<=wr.heap.size:=by have:=GG.out.size;have:=B0.out;omega
      have nb:nn<=2000000:=by
       have a:=congrArg List.length KJ.out;rw [List.length_append,NL.out] at a;have b:=ovr_len A l;rw [AN.out,LM.out] at b;omega
      by_cases klt:k<n
      ·have klt':(k:Int)<(n:Int):=by omega
       have kl:k<A.length:=by rw [AN.out];exact klt
       obtain ⟨ab,af,rfl,hab,u0,u1,u2⟩:=AC.out wr k GG.out klt;have YY:Aside (∃ yk yv yg,A.getD k ent0=⟨yk,yv,yg⟩):=⟨_,_,_,rfl⟩;obtain ⟨yk,yv,yg,hy⟩:=YY.out;have HY:Aside (A.getD k ent0=⟨yk,yv,yg⟩):=hy;rw [hy] at u0 u1 u2;have e0:wr.cell? ⟨ab,af+k*3,none⟩=some (.int .u64 yk):=u0;have e1:wr.cell? ⟨ab,af+k*3+1,none⟩=some (.int .u64 yv):=u1;have e2:wr.cell? ⟨ab,af+k*3+2,none⟩=some (.bool yg):=u2;clear YY hy u0 u1 u2;by_cases lt:yk<xk
       ·have tl:decide (yk<xk)=true:=by simpa using lt
        have K5:Aside ((N++[(⟨yk,yv,yg⟩:Ent)])++ovr (A.drop (k+1)) (l.drop j)=ovr A l):=by
         have:=KJ.out
         rw [ovr_pass kl jl (by rw [HY.out,HX.out];exact lt),HY.out] at this
         rw [List.append_assoc];exact this
        have L5:Aside ((N++[(⟨yk,yv,yg⟩:Ent)]).length=nn+1):=by show _=_;rw [List.length_append,NL.out];rfl
        clear lt;go_wp2_with fail;go_quiet (fail);go_wp2_with (at_builtin;refine wpList_append_own _ rfl _ _ 47 rfl b0 81 ii (.agg #[.int .u64 0,.int .u64 0,.bool false]) 3 24 underlying47 hii hz hs hby rfl (by decide) _ nn _ rfl (EOW.out.alloc _) ⟨wr.heap.size,0,none⟩ 1 1 (ent3 ⟨yk,yv,yg⟩) rfl rfl (new_ent wr ⟨yk,yv,yg⟩) (ent3_one _) (by simp only [maxLen];omega) (by omega) (by simp;omega) ?_)
        intro v' w5 r1 r2 r3;obtain ⟨b5,cap5,rfl,hb5,_,_⟩:=own_slice r1 (by simpa using r3)
        have E5:Aside (EO w5 b0 (.slice (some ⟨b5,0,none⟩) (nn+1) cap5) (N++[(⟨yk,yv,yg⟩:Ent)])):=eo_more (by rw [NL.out];exact r1)
        have G5:Aside (Gw wS w5):=((GG.out.drewN _).alloc _ _).grown r2 (fun q hq=>by have:=(World.ownsRow.lt EOW.out q hq).1;have:=B0.out;omega)
        clear r1 r2 r3 EOW d0 d1 d2 e0 e1 e2 q1 q2 q3 KJ NL E GG;go_wp2_with fail;go_roundg (n-(k+1))
        case measure=>omega
        case rel=>exact ⟨k+1,nn+1,N++[(⟨yk,yv,yg⟩:Ent)],some ⟨b5,0,none⟩,cap5,rfl,by go_num,by omega,Nat.le_refl _,L5,E5,G5,K5⟩
       ·have tl:decide (yk<xk)=false:=by simpa using lt
        by_cases eq:yk=xk
        ·have te:(yk == xk)=true:=by simpa using eq
         have KK:Aside (N++(keepE ⟨xk,xv,xg⟩++ovr (A.drop (k+1)) (l.drop (j+1)))=ovr A l):=by
          have:=KJ.out
          rw [ovr_same kl jl (by rw [HY.out,HX.out];exact eq),HX.out] at this
          exact this
         clear lt eq KJ;go_wp2_with fail;go_quiet (fail);go_wp2_with fail;go_quiet (fail);cases xg with
         | false =>
          go_wp2_with (at_builtin;refine wpList_append_own _ rfl _ _ 47 rfl b0 81 ii (.agg #[.int .u64 0,.int .u64 0,.bool false]) 3 24 underlying47 hii hz hs hby rfl (by decide) _ nn _ rfl (EOW.out.alloc _) ⟨wr.heap.size,0,none⟩ 1 1 (ent3 ⟨xk,xv,false⟩) rfl rfl (new_ent wr ⟨xk,xv,false⟩) (ent3_one _) (by simp only [maxLen];omega) (by omega) (by simp;omega) ?_)
          intro v' w5 r1 r2 r3;obtain ⟨b5,cap5,rfl,hb5,_,_⟩:=own_slice r1 (by simpa using r3)
          have E5:Aside (EO w5 b0 (.slice (some ⟨b5,0,none⟩) (nn+1) cap5) (N++[(⟨xk,xv,false⟩:Ent)])):=eo_more (by rw [NL.out];exact r1)
          have G5:Aside (Gw wS w5):=((GG.out.drewN _).alloc _ _).grown r2 (fun q hq=>by have:=(World.ownsRow.lt EOW.out q hq).1;have:=B0.out;omega)
          have L5:Aside ((N++[(⟨xk,xv,false⟩:Ent)]).length=nn+1):=by show _=_;rw [List.length_append,NL.out];rfl
          have K5:Aside ((N++[(⟨xk,xv,false⟩:Ent)])++ovr (A.drop (k+1)) (l.drop (j+1))=ovr A l):=by show _=_;have:=KK.out;unfold keepE at this;rw [List.append_assoc];simpa using this
          clear r1 r2 r3 EOW KK d0 d1 d2 NL;go_wp2_with fail;go_roundg (m-(j+1))
          case measure=>omega
          case rel=>exact ⟨(k+1),j+1,nn+1,N++[(⟨xk,xv,false⟩:Ent)],some ⟨b5,0,none⟩,cap5,rfl,by go_num,by go_num,by omega,by omega,Nat.le_refl _,L5,E5,G5,K5⟩
         | true =>
          have K5:Aside (N++ovr (A.drop (k+1)) (l.drop (j+1))=ovr A l):=by show _=_;have:=KK.out;unfold keepE at this;simpa using this
          clear EOW KK;go_wp2_with fail;go_roundg (m-(j+1))
          case measure=>omega
          case rel=>exact ⟨(k+1),j+1,nn,N,no,nc,rfl,by go_num,by go_num,by omega,by omega,Nat.le_refl _,NL,(show Aside _ from eo_gw E.out ((Gw.refl wr).drewN _)),(show Aside _ from GG.out.drewN _),K5⟩
        ·have te:(yk == xk)=false:=by simpa using eq
         have KK:Aside (N++(keepE ⟨xk,xv,xg⟩++ovr (A.drop k) (l.drop (j+1)))=ovr A l):=by
          have:=KJ.out
          rw [ovr_more jl (fun _=>by rw [HY.out,HX.out];show xk<yk;omega),HX.out] at this
          exact this
         clear lt eq KJ;go_wp2_with fail;go_quiet (fail);go_wp2_with fail;go_quiet (fail);cases xg with
         | false =>
          go_wp2_with (at_builtin;refine wpList_append_own _ rfl _ _ 47 rfl b0 81 ii (.agg #[.int .u64 0,.int .u64 0,.bool false]) 3 24 underlying47 hii hz hs hby rfl (by decide) _ nn _ rfl (EOW.out.alloc _) ⟨wr.heap.size,0,none⟩ 1 1 (ent3 ⟨xk,xv,false⟩) rfl rfl (new_ent wr ⟨xk,xv,false⟩) (ent3_one _) (by simp only [maxLen];omega) (by omega) (by simp;omega) ?_)
          intro v' w5 r1 r2 r3;obtain ⟨b5,cap5,rfl,hb5,_,_⟩:=own_slice r1 (by simpa using r3)
          have E5:Aside (EO w5 b0 (.slice (some ⟨b5,0,none⟩) (nn+1) cap5) (N++[(⟨xk,xv,false⟩:Ent)])):=eo_more (by rw [NL.out];exact r1)
          have G5:Aside (Gw wS w5):=((GG.out.drewN _).alloc _ _).grown r2 (fun q hq=>by have:=(World.ownsRow.lt EOW.out q hq).1;have:=B0.out;omega)
          have L5:Aside ((N++[(⟨xk,xv,false⟩:Ent)]).length=nn+1):=by show _=_;rw [List.length_append,NL.out];rfl
          have K5:Aside ((N++[(⟨xk,xv,false⟩:Ent)])++ovr (A.drop k) (l.drop (j+1))=ovr A l):=by show _=_;have:=KK.out;unfold keepE at this;rw [List.append_assoc];simpa using this
          clear r1 r2 r3 EOW KK d0 d1 d2 NL;go_wp2_with fail;go_roundg (m-(j+1))
          case measure=>omega
          case rel=>exact ⟨k,j+1,nn+1,N++[(⟨xk,xv,false⟩:Ent)],some ⟨b5,0,none⟩,cap5,rfl,by go_num,by go_num,k1,by omega,Nat.le_refl _,L5,E5,G5,K5⟩
         | true =>
          have K5:Aside (N++ovr (A.drop k) (l.drop (j+1))=ovr A l):=by show _=_;have:=KK.out;unfold keepE at this;simpa using this
          clear EOW KK;go_wp2_with fail;go_roundg (m-(j+1))
          case measure=>omega
          case rel=>exact ⟨k,j+1,nn,N,no,nc,rfl,by go_num,by go_num,k1,by omega,Nat.le_refl _,NL,(show Aside _ from eo_gw E.out ((Gw.refl wr).drewN _)),(show Aside _ from GG.out.drewN _),K5⟩
      ·have kd:decide ((k:Int)<(n:Int))=false:=by simp;omega
       have KK:Aside (N++(keepE ⟨xk,xv,xg⟩++ovr (A.drop k) (l.drop (j+1)))=ovr A l):=by
        have:=KJ.out
        rw [ovr_more jl (fun q=>absurd q (by rw [AN.out];exact klt)),HX.out] at this
        exact this
       clear KJ;go_wp2_with fail;go_quiet (fail);go_wp2_with fail;go_quiet (fail);cases xg with
       | false =>
        go_wp2_with (at_builtin;refine wpList_append_own _ rfl _ _ 47 rfl b0 81 ii (.agg #[.int .u64 0,.int .u64 0,.bool false]) 3 24 underlying47 hii hz hs hby rfl (by decide) _ nn _ rfl (EOW.out.alloc _) ⟨wr.heap.size,0,none⟩ 1 1 (ent3 ⟨xk,xv,false⟩) rfl rfl (new_ent wr ⟨xk,xv,false⟩) (ent3_one _) (by simp only [maxLen];omega) (by omega) (by simp;omega) ?_)
        intro v' w5 r1 r2 r3;obtain ⟨b5,cap5,rfl,hb5,_,_⟩:=own_slice r1 (by simpa using r3)
        have E5:Aside (EO w5 b0 (.slice (some ⟨b5,0,none⟩) (nn+1) cap5) (N++[(⟨xk,xv,false⟩:Ent)])):=eo_more (by rw [NL.out];exact r1)
        have G5:Aside (Gw wS w5):=((GG.out.drewN _).alloc _ _).grown r2 (fun q hq=>by have:=(World.ownsRow.lt EOW.out q hq).1;have:=B0.out;omega)
        have L5:Aside ((N++[(⟨xk,xv,false⟩:Ent)]).length=nn+1):=by show _=_;rw [List.length_append,NL.out];rfl
        have K5:Aside ((N++[(⟨xk,xv,false⟩:Ent)])++ovr (A.drop k) (l.drop (j+1))=ovr A l):=by show _=_;have:=KK.out;unfold keepE at this;rw [List.append_assoc];simpa using this
        clear r1 r2 r3 EOW KK d0 d1 d2 NL;go_wp2_with fail;go_roundg (m-(j+1))
        case measure=>omega
        case rel=>exact ⟨k,j+1,nn+1,N++[(⟨xk,xv,false⟩:Ent)],some ⟨b5,0,none⟩,cap5,rfl,by go_num,by go_num,k1,by omega,Nat.le_refl _,L5,E5,G5,K5⟩
       | true =>
        have K5:Aside (N++ovr (A.drop k) (l.drop (j+1))=ovr A l):=by show _=_;have:=KK.out;unfold keepE at this;simpa using this
        clear EOW KK;go_wp2_with fail;go_roundg (m-(j+1))
        case measure=>omega
        case rel=>exact ⟨k,j+1,nn,N,no,nc,rfl,by go_num,by go_num,k1,by omega,Nat.le_refl _,NL,(show Aside _ from eo_gw E.out ((Gw.refl wr).drewN _)),(show Aside _ from GG.out.drewN _),K5⟩
    ·have ej:j=m:=by omega
     subst ej;obtain ⟨lb,loff,rfl,hlb,hlc⟩:=HE.out.cells (by rw [LN.out];omega)
     obtain ⟨eo,ec,p1,_,_,_⟩:=hlc i hi;rw [HL.out,LM.out] at p1;have q1:=((G.out.trans GG.out).cell _ _ hlb).trans p1;have q2:lb<wr.heap.size:=Nat.lt_of_lt_of_le hlb (G.out.trans GG.out).size;have KE:Aside (N++A.drop k=lvs (L.take (i+1))):=by
      show _=_;rw [NX.out,<-KJ.out,ovr_end (by rw [LM.out];exact Nat.le_refl _)]
     have EOW:Aside (wr.ownsRow b0 81 3 (.slice no nn nc) nn (N.flatMap ent3)):=by
      have:=E.out
      unfold EO at this;rw [NL.out] at this;exact this
     have NN:Aside ((lvs (L.take (i+1))).length=nn+(n-k)):=by
      show _=_;rw [<-KE.out,List.length_append,NL.out,List.length_drop,AN.out]
     have nb:nn+(n-k)<=2000000:=by
      have a:=congrArg List.length KJ.out;have b:=ovr_len A l;rw [ovr_end (by rw [LM.out];exact Nat.le_refl _),List.length_append,NL.out,List.length_drop,AN.out] at a
      rw [AN.out,LM.out] at b;omega
     have GB:Aside (w.heap.size<=b0):=by show _<=_;have:=G.out.size;have:=B0.out;omega
     have EA:Aside (EO wr w.heap.size (.slice bo n bc) A):=eo_gw E0.out GG.out;have nbc:n<=bc/\(bo=none->n=0/\bc=0)/\(∀ a,bo=some a->∃ g,a=⟨g,0,none⟩):=by
      rcases E0.out.2 with ⟨e,z⟩ | ⟨g,cap,cur,e,_,_,cc,_⟩
      ·injection e with e1 e2 e3
       have e0:=AN.out;refine ⟨by omega,fun _=>⟨by omega,e3⟩,fun a ha=>?_⟩
       rw [e1] at ha;cases ha
      ·injection e with e1 e2 e3
       refine ⟨by omega,fun x=>?_,fun a ha=>?_⟩
       ·rw [e1] at x;cases x
       ·rw [e1] at ha;cases ha;exact ⟨_,rfl⟩
     have bz:b0<=wr.heap.size:=by have:=GG.out.size;have:=B0.out;omega
     clear hlc p1 KJ hlb;have FIN:Hid (∀ (v':Value) (w5:World),w5.ownsRow b0 81 3 v' (nn+(n-k)) (N.flatMap ent3++(A.drop k).flatMap ent3)->wr.grownBy w5 (Value.slice no nn nc).ownBlock->(∃ xo xc,v'=.slice xo (lvs (L.take (i+1))).length xc)/\EO w5 w.heap.size v' (lvs (L.take (i+1)))/\Gw w w5):=fun v' w5 r1 r2=>by
      obtain ⟨xo,xc,e⟩:=own_form13 r1;refine ⟨⟨xo,xc,by rw [NN.out];exact e⟩,?_,(G.out.trans GG.out).grown r2 (fun q hq=>by have:=(World.ownsRow.lt EOW.out q hq).1;have:=GB.out;omega)⟩
      have:EO w5 b0 v' (lvs (L.take (i+1))):=by
       unfold EO;rw [NN.out,<-KE.out,List.flatMap_append];exact r1
      exact eo_base this GB.out
     have SRC:Hid (∀ b,bo=some ⟨b,0,none⟩->∀ j u,((A.drop k).flatMap ent3)[j]?=some u->wr.cell? ((⟨b,k*3,none⟩:Addr).add j)=some u):=fun b e=>by
      subst e;exact eo_drop EA.out AN.out k1
     have FL:Hid (((A.drop k).flatMap ent3).length=(n-k)*3):=by
      show _=_;rw [ent3_len,List.length_drop,AN.out]
     cases bo with
     | none =>
      obtain ⟨rfl,rfl⟩:=nbc.2.1 rfl;have k0:k=0:=by omega
      subst k0;clear SRC E0 E EA KE nbc;have HNW:(([]:List Ent))=[]:=rfl;have ad:A.drop 0=[]:=by
       have:=AN.out
       rw [List.drop_zero];exact List.eq_nil_of_length_eq_zero this
      rw [ad] at FIN FL;go_wp2_with (at_builtin;refine wpList_append_own_none rfl _ _ 47 rfl b0 81 ii 3 underlying47 hii _ nn _ rfl EOW.out rfl ?_);obtain ⟨⟨xo,xc,e⟩,f1,f2⟩:=FIN.out _ wr (by simpa using EOW.out) (World.grownBy.refl _ _)
      have E5:Aside (EO wr w.heap.size (.slice no nn nc) (lvs (L.take (i+1)))):=f1;have G5:Aside (Gw w wr):=f2;have LL:Aside ((lvs (L.take (i+1))).length=nn):=by show _=_;injection e with e1 e2 e3;first | done | omega
      clear FIN FL EOW e f1 f2;go_wp2_with fail;go_roundg (ln-(i+1))
      case measure=>omega
      case rel=>exact ⟨i+1,no,nc,by rw [LL.out],by go_num,by omega,Nat.le_refl _,by rw [LL.out];exact E5,G5⟩
     | some ad =>
      obtain ⟨ab,rfl⟩:=nbc.2.2 _ rfl;have nc1:=nbc.1;have ki1:(k:Int)<=(n:Int):=by omega
      have ki2:(n:Int)<=(bc:Int):=by omega
      have SC:=SRC.out ab;clear E0 E EA KE nbc;by_cases kc:bc=k
      ·have kn:n=k:=by omega
       have ad:A.drop k=[]:=by
        refine List.drop_eq_nil_of_le ?_;rw [AN.out,kn];exact Nat.le_refl _
       have kz:n-k=0:=by omega
       rw [ad,kz] at FIN;have KK9:=NN;clear ad NN kz;subst kc;subst kn;go_wp2_with (at_builtin;refine wpList_append_own _ rfl _ _ 47 rfl b0 81 ii (.agg #[.int .u64 0,.int .u64 0,.bool false]) 3 24 underlying47 hii hz hs hby rfl (by decide) _ nn _ rfl EOW.out ⟨ab,0,none⟩ 0 0 [] rfl rfl (fun j u h=>by cases h) (fun u h=>by cases h) (by simp only [maxLen];omega) (by omega) (by omega) ?_)
       intro v' w5 r1 r2 r3;obtain ⟨⟨xo,xc,e⟩,f1,f2⟩:=FIN.out v' w5 (by simpa using r1) r2
       subst e;have E5:Aside (EO w5 w.heap.size (.slice xo (lvs (L.take (i+1))).length xc) (lvs (L.take (i+1)))):=f1;have G5:Aside (Gw w w5):=f2;clear FIN FL SRC SC f1 f2 r1 r2 r3 KK9;go_wp2_with fail;go_roundg (ln-(i+1))
       case measure=>omega
       case rel=>exact ⟨i+1,xo,xc,rfl,by go_num,by omega,Nat.le_refl _,E5,G5⟩
      ·obtain ⟨news,hnews⟩:∃ x,(A.drop k).flatMap ent3=x:=⟨_,rfl⟩
       have KK9:Aside ((A.drop k).flatMap ent3=news):=hnews;have on:=ent3s_one (A.drop k);rw [hnews] at FIN FL SC on;have ON:Aside (∀ u∈news,u.oneCell'=true):=on;have SA:Aside (∀ j u,news[j]?=some u->wr.cell? (⟨ab,k*3+j,none⟩:Addr)=some u):=fun j u h=>by
        have:=SC rfl j u h
        rw [Addr.add_lit] at this;exact this
       clear hnews NN on;go_wp2_with (at_builtin;refine wpList_append_own _ rfl _ _ 47 rfl b0 81 ii (.agg #[.int .u64 0,.int .u64 0,.bool false]) 3 24 underlying47 hii hz hs hby rfl (by decide) _ nn _ rfl EOW.out _ _ _ news rfl ?A1 ?A2 ON.out (by simp only [maxLen];omega) (by omega) (by omega) ?A3)
       case A1=>exact FL.out
       case A2=>exact SA.out
       case A3 =>
        intro v' w5 r1 r2 r3;obtain ⟨⟨xo,xc,e⟩,f1,f2⟩:=FIN.out v' w5 r1 r2;subst e;have E5:Aside (EO w5 w.heap.size (.slice xo (lvs (L.take (i+1))).length xc) (lvs (L.take (i+1)))):=f1;have G5:Aside (Gw w w5):=f2;clear FIN FL SRC SC f1 f2 r1 r2 r3 KK9 SA ON;go_wp2_with fail;go_roundg (ln-(i+1))
        case measure=>omega
        case rel=>exact ⟨i+1,xo,xc,rfl,by go_num,by omega,Nat.le_refl _,E5,G5⟩
  ·have ei:i=ln:=by omega
   subst ei;have TT:L.take i=L:=List.take_of_length_le (by rw [LN.out];exact Nat.le_refl _)
   have E2:Aside (EO wr w.heap.size (.slice bo (lvs L).length bc) (lvs L)):=by have:=E0.out;rw [TT] at this;exact this
   have LL:Aside ((lvs (L.take i)).length=(lvs L).length):=by show _=_;rw [TT]
   clear E0 TT;generalize (lvs (L.take i)).length=n0 at LL;go_wp2_with fail;exact bodyPost_ret (v:=.slice bo n0 bc) (by simp [results,results55,go_sem]) rfl ⟨⟨bo,bc,by rw [<-LL.out],E2.out⟩,G.out⟩
end Go.Proofs.YtpoohadckhphpaaGreat
