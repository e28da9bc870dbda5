/-
  The law Vt52Nil.
-/
import Derived.Test.YtlhajbcabpfbkaaDoorVtN
namespace Go.Proofs.YtlhajbcabpfbkaaDoor
open Go.RowKit

set_option maxRecDepth 100000 in
set_option maxHeartbeats 4000000 in
theorem nil_calls (s : ByteArray) (w : World) (hb : Blank w) : Calls Tryd.prog 3 #[.string s] w fun e w' => e = .returned (.bool true) ∧ Below w.heap.size w w' := by
  have HB := Lib.hid hb
  clear hb
  go_enter Tryd.func3, Tryd.ntmps3
  go_wp2_with fail
  refine (made_any 2 2 2 w HB.out (by omega) (by omega)).mono ?_
  rintro e w1 ⟨b, a, rfl, hW, hO, k1⟩
  have c0 := hW.c0
  have c1 := hW.c1
  have K1 := Lib.hid k1
  have HB1 := Lib.hid (HB.out.kept0 k1)
  clear hW hO k1
  by_cases hl : 100 < s.size
  · have hd : (100 : Int) < (s.size : Int) := by omega
    go_wp2_with fail
    refine (awake_any _ HB1.out).mono ?_
    rintro e w2 ⟨rfl, k2⟩
    have K2 := Lib.hid (K1.out.trans k2)
    clear k2
    go_wp2_with fail
    go_ret
    exact ⟨rfl, Kept0.below K2.out⟩
  · have hd : ¬ (100 : Int) < (s.size : Int) := by omega
    go_wp2_with fail
    refine (on_none none (some ⟨a.q, 0, none⟩) (Or.inl rfl) _).mono ?_
    rintro e w2 ⟨rfl, rfl⟩
    go_wp2_with fail
    refine (on_none (some ⟨a.s, 0, none⟩) none (Or.inr rfl) _).mono ?_
    rintro e w2 ⟨rfl, rfl⟩
    go_wp2_with fail
    refine (feed_nil s _).mono ?_
    rintro e w2 ⟨rfl, k2⟩
    have K2 := Lib.hid (K1.out.trans k2)
    clear k2 c0 c1
    go_wp2_with fail
    refine (reset_nil _).mono ?_
    rintro e w3 ⟨rfl, rfl⟩
    go_wp2_with fail
    refine (drop_nil _).mono ?_
    rintro e w3 ⟨rfl, rfl⟩
    go_wp2_with fail
    refine (modes_nil _).mono ?_
    rintro e w3 ⟨rfl, k3⟩
    have K3 := Lib.hid (K2.out.trans k3)
    clear k3
    go_wp2_with fail
    refine (pending_nil _).mono ?_
    rintro e w4 ⟨rfl, rfl⟩
    go_wp2_with fail
    refine (awake_any _ (HB.out.kept0 K3.out)).mono ?_
    rintro e w4 ⟨rfl, k4⟩
    have K4 := Lib.hid (K3.out.trans k4)
    clear k4
    go_wp2_with fail
    go_ret
    exact ⟨rfl, Kept0.below K4.out⟩
end Go.Proofs.YtlhajbcabpfbkaaDoor
