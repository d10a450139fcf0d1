/- Package octets: Word and PutFloat; bytes as a text. -/
import Derived.Laws.StructEq
import Derived.Test.YtpoohadckhphpaaGreatBXOct
set_option linter.unusedVariables false
set_option maxHeartbeats 2000000
set_option maxRecDepth 10000
open Go.Proofs.Tryz
namespace Go.Proofs.YtpoohadckhphpaaGreat
open Go.RowKit
attribute [local go_sem] f64from f64bits
def txt (f:Nat->Int) (n:Nat):ByteArray:=strOfNums ((List.range n).map f)
theorem txt_size (f:Nat->Int) (n:Nat):(txt f n).size=n:=by unfold txt;rw [strOfNums_size];simp
theorem conv_b {w:World} {ao:Option Addr} {n:Nat} {f:Nat->Int} (h:BS w ao n f) (c:Nat):(convert 22 9 (.slice ao n c)).run prog w=.ok (.string (txt f n)) w:=by
 by_cases z:n=0
 ·subst z
  cases ao with
  | none=>exact run_convert_bytes_nil w 22 5 underlying22 underlying5 0 c 9 underlying9
  | some a =>
   rw [run_convert_bytes_string w 22 9 5 _ 0 c underlying22 underlying5 underlying9];have hl:(loadCells a 0).run prog w=.ok (([]:List Int).map (Value.int .u8)).toArray w:=by simpa using run_loadCells_list (P:=prog) w a [] (by simp)
   rw [run_bytesToString w a 0 c [] hl];rfl
 ·obtain ⟨b,off,rfl,hb,hc⟩:=h.cells (by omega)
  exact run_convert_bytes_arg w 22 5 underlying22 underlying5 b off n c ((List.range n).map f) (by simp) (fun i hi=>by rw [hc i hi];simp [hi]) 9 underlying9
theorem txt_eq {f:Nat->Int} {s:ByteArray} (bd:∀ i,i<s.size->0<=f i/\f i<256):((txt f s.size).toList == s.toList)=decide (∀ i,i<s.size->f i=strB s i):=by
 have key:txt f s.size=s↔∀ i,i<s.size->f i=strB s i:=by
  constructor
  ·intro e i hi
   have h1:(txt f s.size).data[i]?=s.data[i]?:=by rw [e]
   have hi':i<s.data.size:=hi;unfold txt strOfNums at h1;simp [hi] at h1;unfold strB;rw [dif_pos hi];show f i=((s.data[i]'hi').toNat:Int);rw [<-h1,UInt8.toNat_ofNat'];have:=bd i hi;omega
  ·intro h
   have:(txt f s.size).data=s.data:=by
    apply Array.ext
    ·exact txt_size f s.size
    ·intro i h1 h2
     have hi:i<s.size:=h2;have e:=h i hi;unfold strB at e;rw [dif_pos hi] at e;have e':f i=((s.data[i]'h2).toNat:Int):=e;unfold txt strOfNums;simp [e']
   cases hs:s with
   | mk d=>rw [hs] at this;exact congrArg ByteArray.mk this
 by_cases q:txt f s.size=s
 ·rw [decide_eq_true (key.1 q),q];simp
 ·rw [decide_eq_false (fun t=>q (key.2 t))]
  have n:¬ (txt f s.size).toList=s.toList:=fun e=>by
   rw [Go.ByteArray.toList_eq,Go.ByteArray.toList_eq] at e;have e2:(txt f s.size).data=s.data:=Array.ext' e;apply q;cases hs:s with
   | mk d=>rw [hs] at e2;exact congrArg ByteArray.mk e2
  simpa using n
theorem xword_any {w:World} {p:Nat} {S:Nat->Prop} {f:Nat->Int} {m:Nat} (s:ByteArray) (hm:m<=140737488355000) (h:RRd 86 w p S f m) :
  Calls prog 36 #[.pointer (some ⟨p,0,none⟩),.string s] w fun e w'=>e=.returned (.int .i64 (wordA f m s).1)/\Rds 86 p S f m (wordA f m s).2 w w':=by
 have HR:Aside (RRd 86 w p S f m):=h;obtain ⟨bo,c,h1,hb,hc,hp,hS⟩:=h.blk;obtain ⟨c0,f0⟩:=rd_cell h1;have pl:p<w.heap.size:=(Array.getElem?_eq_some_iff.1 h1).1;unfold wordA;by_cases km:m<s.size
 ·have t0:(m:Int)<(s.size:Int):=by omega
  rw [if_pos km];clear h h1 hb hp hS;go_enter func36,ntmps36;go_wp2_with fail;go_ret;exact ⟨rfl,.none HR.out⟩
 ·have t0:¬ (m:Int)<(s.size:Int):=by omega
  have hs:s.size<=140737488355000:=by omega
  rw [if_neg km];have bs:BS w bo s.size f:=⟨fun h0=>by
   obtain ⟨b,off,e,x,y⟩:=hb.cells (by omega)
   exact ⟨b,off,e,x,fun i hi=>y i (by omega)⟩,fun i hi=>hb.bd i (by omega)⟩
  have cv:=conv_b bs c;have tx:=txt_eq (s:=s) (f:=f) bs.bd;have PS:Hid (Calls prog 66 #[.pointer (some ⟨p,0,none⟩),.int .i64 (s.size:Int)] w fun e w'=>e=.returned (.tuple #[])/\Rds 86 p S f m s.size w w'):=xpass_any s.size hm (by omega) HR.out
  have sc:s.size<=c:=by omega
  clear h h1 hb hp hS bs;by_cases q:∀ i,i<s.size->f i=strB s i
  ·rw [if_pos q]
   rw [decide_eq_true q] at tx;clear q;go_enter func36,ntmps36;go_wp2_with fail;refine Calls.mono PS.out ?_;rintro e w2 ⟨rfl,hw⟩;have RD:Aside (Rds 86 p S f m s.size w w2):=hw;clear hw PS;go_wp2_with fail;go_ret;exact ⟨rfl,RD.out⟩
  ·rw [if_neg q]
   rw [decide_eq_false q] at tx;clear q PS;go_enter func36,ntmps36;go_wp2_with fail;go_ret;exact ⟨rfl,.none HR.out⟩
theorem octr:OctR 86 116 67 189 117 36 19 where
 left:=xleft_any
 number:=xnumber_any
 count:=xcount_any
 float:=xfloat_any
 byte:=xbyte_any
 word:=xword_any
theorem xputf_any (ao:Option Addr) (n cp:Nat) (f:Nat->Int) (x:Nat) (x1:x<18446744073709551616) (hn:n<=140737488355000) (w:World) (h:BS w ao n f) :
  Calls prog 164 #[.slice ao n cp,.float .f64 x] w fun e w'=>(∃ b,e=.returned (.slice (some ⟨b,0,none⟩) (n+8) (n+8))/\w.heap.size<=b/\w'.rowIs b 5 (n+8) (fun i=>.int .u8 (cat f n (fun i=>byt (x:Int) (7-i)) i)))/\Gw w w':=by
 have PT:Hid (Calls prog 139 #[.slice ao n cp,.int .u64 (x:Int)] w fun e w'=>(∃ b,e=.returned (.slice (some ⟨b,0,none⟩) (n+8) (n+8))/\w.heap.size<=b/\w'.rowIs b 5 (n+8) (fun i=>.int .u8 (cat f n (fun i=>byt (x:Int) (7-i)) i)))/\Gw w w'):=xput_any ao n cp f x (by omega) (by omega) hn w h
 clear h;go_enter func164,ntmps164;go_wp2_with fail;refine Calls.mono PT.out ?_;rintro e w2 ⟨⟨b,rfl,a1,a2⟩,a3⟩;have RS:Aside (w.heap.size<=b/\w2.rowIs b 5 (n+8) (fun i=>.int .u8 (cat f n (fun i=>byt (x:Int) (7-i)) i))/\Gw w w2):=⟨a1,a2,a3⟩
 clear a1 a2 a3 PT;go_wp2_with fail;go_ret;exact ⟨⟨b,rfl,RS.out.1,RS.out.2.1⟩,RS.out.2.2⟩
end Go.Proofs.YtpoohadckhphpaaGreat
