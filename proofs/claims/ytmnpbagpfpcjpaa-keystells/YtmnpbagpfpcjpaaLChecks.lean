/- KeysChecks returns true for every list of entries. -/
import Derived.Test.YtmnpbagpfpcjpaaKShown
import Derived.Test.YtmnpbagpfpcjpaaKRefE
import Derived.Test.YtmnpbagpfpcjpaaKLent
namespace Go.Proofs.Ytmnpbagpfpcjpaa
open Go.RowKit
set_option linter.unusedVariables false

theorem es_lent {w : World} {b n : Nat} {k v : Nat → Int} {g : Nat → Bool} (h : w.rowIs b 35 ((n + 1) * 3) (ecell (mk n k) (mk n v) (mg n g))) (bd : ∀ i, i < n → (0 ≤ k i ∧ k i < 18446744073709551616) ∧ (0 ≤ v i ∧ v i < 18446744073709551616)) : ES w (some ⟨b, 0, none⟩) n k v g := by
  have h' := es_of_row (n := n) h (by omega) (fun i hi => by simp only [mk, if_pos hi]; exact bd i hi)
  refine ⟨fun h0 => ?_, bd⟩
  obtain ⟨b', off, e, hb, hc⟩ := h'.cells h0
  refine ⟨b', off, e, hb, fun i hi => ?_⟩
  have := hc i hi
  simp only [mk, mg, if_pos hi] at this
  exact this

set_option maxHeartbeats 1000000 in
theorem checks_walk (ao : Option Addr) (n c : Nat) (k v : Nat → Int) (g : Nat → Bool) (hn : n * 24 ≤ 140737488351232) (w : World) (h : ES w ao n k v g) :
    Calls Try.prog 3 #[.slice ao n c] w fun e w' => e = .returned (.bool true) ∧ Gb w w' := by
  go_enter Try.func3, Try.ntmps3
  go_wp2_with fail
  refine (shown_any _).mono ?_
  rintro e w1 ⟨rfl, g1⟩
  go_wp2_with fail
  refine (lent_any ao n c k v g hn _ (h.gb g1)).mono ?_
  rintro e w2 ⟨⟨b, rfl, hb, hR⟩, g2⟩
  have R : Hid (w2.rowIs b 35 ((n + 1) * 3) (ecell (mk n k) (mk n v) (mg n g))) := hR
  clear hR
  go_wp2_with fail
  refine (check_any _ n (n + 1) k v g (by omega) (by omega) _ (es_lent R.out h.bd)).mono ?_
  rintro e w3 ⟨⟨r, rfl, hr⟩, g3⟩
  have H : Hid (ChkR k v g n r) := hr
  clear hr
  go_wp2_with fail
  refine (live_any _ n (n + 1) k v g (by omega) _ ((es_lent R.out h.bd).gb g3)).mono ?_
  rintro e w4 ⟨rfl, g4⟩
  go_wp2_with fail
  refine (still_any ao b n c k v g hn _ (h.gb (((g1.trans g2).trans g3).trans g4)) (rowIs_gb R.out (g3.trans g4))).mono ?_
  rintro e w5 ⟨rfl, g5⟩
  go_wp2_with fail
  refine (rcheck_any ao n c k v g (by omega) _ (h.gb ((((g1.trans g2).trans g3).trans g4).trans g5))).mono ?_
  rintro e w6 ⟨⟨r', rfl, hr'⟩, g6⟩
  obtain rfl : r' = r := hr'.one H.out
  clear hr'
  go_wp2_with fail
  refine (rlive_any ao n c k v g (by omega) _ (h.gb (((((g1.trans g2).trans g3).trans g4).trans g5).trans g6))).mono ?_
  rintro e w7 ⟨rfl, g7⟩
  go_wp2_with fail
  go_ret
  exact ⟨by simp, (((((g1.trans g2).trans g3).trans g4).trans g5).trans g6).trans g7⟩

end Go.Proofs.Ytmnpbagpfpcjpaa
