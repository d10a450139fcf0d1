/- How far keys rise: package keys' generic function at keys (over layer 4's words). Package line's Fits, over what its 'climb' does. -/
import Derived.Deep.CondSized
import Derived.Deep.RegionWith
import Derived.Test.YtemijdhemdhclaaGreatNPY1
import Derived.Test.YtemijdhemdhclaaGreatNXBase
set_option linter.unusedVariables false
set_option maxHeartbeats 1000000
open Go.Proofs.Tryz
namespace Go.Proofs.YtemijdhemdhclaaGreat
open Go.RowKit Go.Shelf
attribute [local go_sem] Oper.semAt_some
theorem xstretch_any (ao:Option Addr) (n c:Nat) (f:Nat->Int) (hn:n<4611686018427387904) (w:World) (h:KS w ao n f) :
  Calls prog 144 #[.slice ao n c] w fun e w'=>(∃ r:Bool,e=.returned (.bool r)/\(r=true↔0<n/\Up f n))/\Gw w w':=by
 have R:Hid _:=fun w h=>rising_any ao n c f hn w h
 have H:Hid _:=h;clear h;by_cases h0:0<n
 ·have t0:decide (0<(n:Int))=true:=by simp;omega
  have t1:(0:Int)<(n:Int):=by omega
  go_enter func144,ntmps144;go_wp2_with fail;refine (R.out _ H.out).mono ?_;rintro e w1 ⟨⟨r,rfl,hr⟩,g1⟩;have HR:Hid _:=hr;clear hr;go_wp2_with fail;go_ret;exact ⟨⟨r,rfl,by rw [HR.out];exact ⟨fun q=>⟨h0,q⟩,fun q=>q.2⟩⟩,g1⟩
 ·have e0:n=0:=by omega
  subst e0;go_enter func144,ntmps144;go_wp2_with fail;go_ret;exact ⟨⟨false,rfl,by simp⟩,Gw.refl w⟩
end Go.Proofs.YtemijdhemdhclaaGreat
