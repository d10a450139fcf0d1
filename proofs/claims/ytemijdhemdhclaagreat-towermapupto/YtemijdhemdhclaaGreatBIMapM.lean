/- A tower and the plain map beside it. -/
import Derived.Test.YtemijdhemdhclaaGreatBIOf
import Derived.Test.YtemijdhemdhclaaGreatBIPut
set_option linter.unusedVariables false
namespace Go.Proofs.YtemijdhemdhclaaGreat
open Go.RowKit
def cfgA (eps buf keys:Int):Array Value:=#[.int .i64 eps,.int .i64 buf,.int .i64 keys]
structure MP (HR:HRt) (w w':World) (bq p:Nat) (F:Nat->Prop) (eps buf keys:Int) (l:List Ent) (rs:List (Option Rn)) (B W:Int) (live:Nat) (pq:Nat) (S:Nat->Prop) (P:List (Int×Int)):Prop where
 tw:Tw HR w w' p F eps buf keys l rs B W live
 hp:HP w' pq S P
 bx:w'.heap[bq]?=some (.cells (cfgA eps buf keys) 23 (0,0))
 fs:∀ q,F q->¬ S q
 rS:∀ r,some r∈rs->∀ q,S q->¬ r.S q
 fb:∀ q,F q->bq<q
 sb:∀ q,S q->bq<q
 wb:w.heap.size<=bq
section
variable {HR:HRt} {w u u':World} {bq p pq:Nat} {F S:Nat->Prop} {eps buf keys:Int} {l:List Ent} {rs:List (Option Rn)} {B W:Int} {live n:Nat} {P P':List (Int×Int)} {e:Ent}
theorem MP.gw (K:Kp HR) (h:MP HR w u bq p F eps buf keys l rs B W live pq S P) (g:Gw u u'):MP HR w u' bq p F eps buf keys l rs B W live pq S P :=
 ⟨h.tw.to K g,h.hp.gw g,(g.below.block bq (blkl h.bx)).trans h.bx,h.fs,h.rS,h.fb,h.sb,h.wb⟩
theorem MP.tower (K:Kp HR) (h:MP HR w u bq p F eps buf keys l rs B W live pq S P) (c:ChOut HR u u' p F eps buf keys l rs B W e n):∃ F' l' rs' B' W',MP HR w u' bq p F' eps buf keys l' rs' B' W' n pq S P/\LayR HR u u' eps buf l rs B W l' rs' B' W' e/\Gx F u u':=by
 obtain ⟨F',l',rs',B',W',a,b,c,d⟩:=h.tw.step c;have bl:=blkl h.bx;refine ⟨F',l',rs',B',W',⟨a,h.hp.gx d (fun q hq hf=>h.fs q hf hq),(d.block bq bl (fun x=>by have:=h.fb bq x;omega)).trans h.bx,fun q hq hs=>?_,fun r hr q hs hx=>?_,fun q hq=>?_,h.sb,h.wb⟩,b,d⟩
 ·rcases c.1 q hq with x | x
  ·exact h.fs q x hs
  ·have:=h.hp.lt q hs;omega
 ·rcases c.2 r hr with x | x
  ·exact h.rS r x q hs hx
  ·have:=x q hx;have:=h.hp.lt q hs;omega
 ·rcases c.1 q hq with x | x
  ·exact h.fb q x
  ·omega
theorem MP.plain (K:Kp HR) (h:MP HR w u bq p F eps buf keys l rs B W live pq S P) (c:POut u u' pq S P'):∃ S',MP HR w u' bq p F eps buf keys l rs B W live pq S' P':=by
 obtain ⟨S',a,d,s⟩:=c;have bl:=blkl h.bx;refine ⟨S',⟨⟨h.tw.ht.gx K d (fun q hs hf=>h.fs q hf hs) (fun q hs r hr hx=>h.rS r hr q hs hx),h.tw.new,Gx.gw h.tw.gw d (fun q hq=>by have:=h.sb q hq;have:=h.wb;omega)⟩,a,(d.block bq bl (fun x=>by have:=h.sb bq x;omega)).trans h.bx,fun q hf hs=>?_,fun r hr q hs hx=>?_,h.fb,fun q hq=>?_,h.wb⟩⟩
 ·rcases s q hs with x | x
  ·exact h.fs q hf x
  ·have:=h.tw.ht.lt K q (.inl hf);omega
 ·rcases s q hs with x | x
  ·exact h.rS r hr q x hx
  ·have:=h.tw.ht.lt K q (.inr ⟨r,hr,hx⟩);omega
 ·rcases s q hq with x | x
  ·exact h.sb q x
  ·omega
theorem MP.count (h:MP HR w u bq p F eps buf keys l rs B W live pq S P) (eq:∀ q,valP P q=valE l rs q):live=P.length:=by
 have a:LvN (liveE l rs) P.length:=by
  refine ⟨P.map Prod.fst,?_,fun q=>?_,by simp⟩
  ·rw [List.pairwise_map]
   exact h.hp.rise
  ·rw [<-valE_live,<-eq q]
   unfold valP;constructor
   ·intro hq
    obtain ⟨x,hx,rfl⟩:=List.mem_map.1 hq;have:(look Prod.fst x.1 P).isSome:=by
     unfold look;rw [List.find?_isSome];exact ⟨x,hx,by simp⟩
    rw [Option.isSome_map];exact this
   ·intro hq
    rw [Option.isSome_map] at hq;obtain ⟨x,hx⟩:=Option.isSome_iff_exists.1 hq;exact List.mem_map.2 ⟨x,List.mem_of_find?_eq_some hx,look_key hx⟩
 exact h.tw.ht.inv.all.one a
end
def MapI (HR:HRt) (w u:World) (bq p pq:Nat) (eps buf keys:Int) (i:Nat):Prop:=∃ F l rs B W live S P,MP HR w u bq p F eps buf keys l rs B W live pq S P/\BW l rs B W i/\(∀ q,valP P q=valE l rs q)/\P.length<=i
theorem MapI.to {HR:HRt} (K:Kp HR) {w u u':World} {bq p pq:Nat} {eps buf keys:Int} {i:Nat} (h:MapI HR w u bq p pq eps buf keys i) (g:Gw u u'):MapI HR w u' bq p pq eps buf keys i:=by
 obtain ⟨F,l,rs,B,W,n,S,P,a,b,c⟩:=h;exact ⟨F,l,rs,B,W,n,S,P,a.gw K g,b,c⟩
theorem valP_of {P:List (Int×Int)} {k:Int} {o:Option (Int×Int)} (h:look Prod.fst k P=o):valP P k=o.map Prod.snd:=by unfold valP;rw [h]
theorem ins_lenP {P:List (Int×Int)} {x:Int×Int} (r:Rise Prod.fst P):(ins Prod.fst x P).length<=P.length+1:=ins_len r
theorem drop_lenP (P:List (Int×Int)) (k:Int):(dropP k P).length<=P.length:=List.length_filter_le _ _
end Go.Proofs.YtemijdhemdhclaaGreat
