/- Rows of bytes in memory; the document's Put. -/
import Derived.Maps.AppendAt
import Derived.Test.YtpoohadckhphpaaGreatBPBs
set_option linter.unusedVariables false
open Go.Proofs.Tryz
namespace Go.Proofs.YtpoohadckhphpaaGreat
open Go.RowKit
structure BS (w:World) (ao:Option Addr) (n:Nat) (f:Nat->Int):Prop where
 cells:0<n->∃ b off,ao=some ⟨b,off,none⟩/\b<w.heap.size/\∀ i,i<n->w.cell? ⟨b,off+i,none⟩=some (.int .u8 (f i))
 bd:∀ i,i<n->0<=f i/\f i<256
theorem BS.gw {w w':World} {ao:Option Addr} {n:Nat} {f:Nat->Int} (h:BS w ao n f) (g:Gw w w'):BS w' ao n f :=
 ⟨fun hn=>by
  obtain ⟨b,off,e,hb,hc⟩:=h.cells hn;exact ⟨b,off,e,Nat.lt_of_lt_of_le hb g.size,fun i hi=>(g.cell _ _ hb).trans (hc i hi)⟩,h.bd⟩
def bts (f:Nat->Int) (n:Nat):List Value:=(List.range n).map fun i=>Value.int .u8 (f i)
theorem bts_len (f:Nat->Int) (n:Nat):(bts f n).length=n:=by simp [bts]
theorem bts_one (f:Nat->Int) (n:Nat):∀ u∈bts f n,u.oneCell'=true:=by
 intro u hu;obtain ⟨j,_,rfl⟩:=List.mem_map.1 hu;rfl
theorem bts_at (f:Nat->Int) {n i:Nat} (h:i<n):(bts f n)[i]?=some (.int .u8 (f i)):=by simp [bts,h]
theorem info_b:(prog.info? 5).map (fun i=>(i.zero,i.size,i.bytes))=some (some (.int .u8 0),1,1):=by kernel_rfl
def BR (w:World) (base:Nat) (v:Value) (f:Nat->Int) (n:Nat):Prop:=w.ownsRow base 5 1 v n (bts f n)
theorem br_bs {w:World} {base:Nat} {ao:Option Addr} {cap n:Nat} {f:Nat->Int} (h:BR w base (.slice ao n cap) f n) (bd:∀ i,i<n->0<=f i/\f i<256):BS w ao n f:=by
 refine ⟨fun h0=>?_,bd⟩
 rcases h.2 with ⟨e,z⟩ | ⟨g,cap',cur,e,hb,hh,r⟩
 ·omega
 ·cases e
  refine ⟨g,0,rfl,(Array.getElem?_eq_some_iff.1 hh).1,fun i hi=>?_⟩
  rw [Nat.zero_add,World.ownsRow.cellAt h i (by omega)]
  exact bts_at f hi
def cat (f:Nat->Int) (n:Nat) (g:Nat->Int):Nat->Int:=fun i=>if i<n then f i else g (i-n)
theorem bts_cat (f:Nat->Int) (n:Nat) (g:Nat->Int) (m:Nat):bts (cat f n g) (n+m)=bts f n++bts g m:=by
 apply List.ext_getElem?
 intro i;by_cases h:i<n
 ·rw [List.getElem?_append_left (by rw [bts_len];exact h),bts_at _ (by omega),bts_at _ h]
  simp [cat,h]
 ·rw [List.getElem?_append_right (by rw [bts_len];omega),bts_len]
  by_cases k:i<n+m
  ·rw [bts_at _ k,bts_at _ (by omega)]
   simp [cat,h]
  ·rw [List.getElem?_eq_none (by rw [bts_len];omega),List.getElem?_eq_none (by rw [bts_len];omega)]
theorem cat_bd {f g:Nat->Int} {n m:Nat} (hf:∀ i,i<n->0<=f i/\f i<256) (hg:∀ i,i<m->0<=g i/\g i<256):∀ i,i<n+m->0<=cat f n g i/\cat f n g i<256:=fun i hi=>by
 unfold cat;by_cases h:i<n
 ·rw [if_pos h];exact hf i h
 ·rw [if_neg h];exact hg (i-n) (by omega)
end Go.Proofs.YtpoohadckhphpaaGreat
