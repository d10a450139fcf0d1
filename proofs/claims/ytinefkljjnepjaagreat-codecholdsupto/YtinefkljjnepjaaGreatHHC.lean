/- What the statements of layer 4 ask of package hull, as one structure; and their examples. -/
import Derived.Test.YtinefkljjnepjaaGreatHR4Fit
namespace Go.Proofs.YtinefkljjnepjaaGreat
open Go.RowKit
set_option linter.unusedVariables false
theorem Gs.gw {S:Nat→Prop} {W w w':World} (h:Gw W w) (g:Gs S w w') (hS:∀ q,S q→W.heap.size≤q):Gw W w' :=
 ⟨⟨g.os.trans h.below.os,g.tape.trans h.below.tape,g.output.trans h.below.output,Nat.le_trans h.below.size g.size,fun q hq=>(g.block q (Nat.lt_of_lt_of_le hq h.below.size) (fun s=>by have:=hS q s;omega)).trans (h.below.block q hq)⟩⟩
structure HullC (HF:World→Nat→(Nat→Prop)→Int→Nat→(Nat→Int)→Prop):Prop where
 keep:∀ {w w':World} {p:Nat} {S:Nat→Prop} {e:Int} {n:Nat} {f:Nat→Int},HF w p S e n f→(∀ q,S q→w'.heap[q]?=w.heap[q]?)→HF w' p S e n f
 lt:∀ {w:World} {p:Nat} {S:Nat→Prop} {e:Int} {n:Nat} {f:Nat→Int},HF w p S e n f→∀ q,S q→q<w.heap.size
 ext:∀ {w:World} {p:Nat} {S:Nat→Prop} {e:Int} {n:Nat} {f g:Nat→Int},HF w p S e n f→(∀ i,i<n→f i=g i)→HF w p S e n g
 facts:∀ {w:World} {p:Nat} {S:Nat→Prop} {e:Int} {n:Nat} {f:Nat→Int},HF w p S e n f→Up f n∧(∀ i,i<n→0≤f i∧f i<18446744073709551616)∧FitsOn e f (Prs n)∧1≤e∧e≤63
 bad:∀ (eps:Int),¬ (2≤eps∧eps≤64)→∀ w:World,Calls Tryz.prog 142 #[.int .i64 eps] w fun ex w'=>ex=.returned (.tuple #[.pointer none, .int .i64 1])∧Gw w w'
 new:∀ (eps:Int),2≤eps→eps≤64→∀ w:World,Calls Tryz.prog 142 #[.int .i64 eps] w fun ex w'=>(∃ p S,ex=.returned (.tuple #[.pointer (some ⟨p,0,none⟩), .int .i64 0])∧(∀ q,S q→w.heap.size≤q)∧HF w' p S (eps-1) 0 (fun _=>0))∧Gw w w'
 add:∀ {w:World} {p:Nat} {S:Nat→Prop} {e:Int} {n:Nat} {f:Nat→Int},HF w p S e n f→∀ x:Int,0≤x→x<18446744073709551616→n≤3000000 →
  Calls Tryz.prog 159 #[.pointer (some ⟨p,0,none⟩), .int .u64 x] w fun ex w' =>
   (∃ (ok:Bool) (err:Int) (S':Nat→Prop),ex=.returned (.tuple #[.bool ok, .int .i64 err])∧AddR e n f x ok err∧HF w' p S' e (if ok then n+1 else n) (if ok then upd f n x else f)∧∀ q,S' q→S q∨w.heap.size≤q)∧Gs S w w'
 least:∀ {w:World} {p:Nat} {S:Nat→Prop} {e:Int} {n:Nat} {f:Nat→Int},HF w p S e n f→n≤3000001→Calls Tryz.prog 162 #[.pointer (some ⟨p,0,none⟩)] w fun ex w'=>(∃ a b,ex=.returned (.agg #[.int .u64 a, .int .u64 b])∧LowOn e f (Prs n) a b∧a<18446744073709551616∧b<18446744073709551616)∧Gw w w'
theorem HullC.gw {HF:World→Nat→(Nat→Prop)→Int→Nat→(Nat→Int)→Prop} (H:HullC HF) {w w':World} {p:Nat} {S:Nat→Prop} {e:Int} {n:Nat} {f:Nat→Int} (h:HF w p S e n f) (g:Gw w w'):HF w' p S e n f :=
 H.keep h fun q hq=>g.below.block q (H.lt h q hq)
end Go.Proofs.YtinefkljjnepjaaGreat
