/-
  The things that a byte may do as function values: what holds of one that lies in a table.
-/
import Derived.Test.YtlhajbcabpfbkaaGreatDoorVtT
namespace Go.Proofs.YtlhajbcabpfbkaaGreatDoor
open Go.RowKit

/-- f does d, as long as what it holds (blocks from lo on) is as it was. -/
def ActF (lo : Nat) (w : World) (d : Dw) (f : Value) : Prop :=
  ∃ fn caps, f = .func (.func fn) #[] caps ∧ (∀ args w, (callFunc fn args).run Tryz.prog w = .ok (.enter fn args) w) ∧
    ∀ (W : World) (a : Bl) (v : Vt) (s : List UInt8), Kept (· < lo) w W → VtIn W a v → LenOk d s → Calls Tryz.prog fn (#[ptr a.tm, .string (Qu.str s)] ++ caps) W (Ends a (actV d s v) W)
def ActAt (lo : Nat) (w : World) (d : Dw) (f : Value) : Prop := (d = .no ∧ f = .nilFunc) ∨ (d ≠ .no ∧ ActF lo w d f)

theorem ActF.kept {lo : Nat} {w w' : World} {d : Dw} {f : Value} (h : ActF lo w d f) (k : Kept (· < lo) w w') : ActF lo w' d f := by
  obtain ⟨fn, caps, e, he, hc⟩ := h
  exact ⟨fn, caps, e, he, fun W a v s kW => hc W a v s (k.trans kW)⟩
theorem ActF.lower {lo lo' : Nat} {w : World} {d : Dw} {f : Value} (h : ActF lo w d f) (hl : lo' ≤ lo) : ActF lo' w d f := by
  obtain ⟨fn, caps, e, he, hc⟩ := h
  exact ⟨fn, caps, e, he, fun W a v s kW => hc W a v s (kW.mono (fun _ _ h => Nat.lt_of_lt_of_le h hl))⟩
theorem ActAt.kept {lo : Nat} {w w' : World} {d : Dw} {f : Value} (h : ActAt lo w d f) (k : Kept (· < lo) w w') : ActAt lo w' d f := h.imp id (fun h => ⟨h.1, h.2.kept k⟩)
theorem ActAt.one {lo : Nat} {w : World} {d : Dw} {f : Value} (h : ActAt lo w d f) : f.oneCell' = true := by
  rcases h with ⟨_, rfl⟩ | ⟨_, fn, caps, rfl, _⟩ <;> rfl

theorem actTab (lo : Nat) (w : World) : ActF lo w .tab (.func (.func 72) #[] #[]) := ⟨72, #[], rfl, enters_of Tryz.func72 (by kernel_rfl) rfl, fun _ _ _ s _ h _ => tab_vt h (Qu.str s)⟩
theorem actFirst (lo : Nat) (w : World) : ActF lo w .first (.func (.func 74) #[] #[]) := ⟨74, #[], rfl, enters_of Tryz.func74 (by kernel_rfl) rfl, fun _ _ _ s _ h _ => first_vt h (Qu.str s)⟩
theorem actPut (lo : Nat) (w : World) : ActF lo w .put (.func (.func 76) #[] #[]) := ⟨76, #[], rfl, enters_of Tryz.func76 (by kernel_rfl) rfl, fun _ _ _ s _ h hl => put_vt h s hl⟩
theorem actHome (lo : Nat) (w : World) : ActF lo w .home (.func (.func 77) #[] #[]) := ⟨77, #[], rfl, enters_of Tryz.func77 (by kernel_rfl) rfl, fun _ _ _ s _ h _ => home_vt h (Qu.str s)⟩
theorem actWait (lo : Nat) (w : World) : ActF lo w .wait (.func (.func 61) #[] #[]) := ⟨61, #[], rfl, enters_of Tryz.func61 (by kernel_rfl) rfl, fun _ _ _ s _ h _ => wait_vt h s⟩
theorem actGoTo (lo : Nat) (w : World) : ActF lo w .goTo (.func (.func 62) #[] #[]) := ⟨62, #[], rfl, enters_of Tryz.func62 (by kernel_rfl) rfl, fun _ _ _ s _ h hl => goTo_vt h s hl⟩
theorem actWipeS (lo : Nat) (w : World) : ActF lo w .wipeS (.func (.func 78) #[] #[]) := ⟨78, #[], rfl, enters_of Tryz.func78 (by kernel_rfl) rfl, fun _ _ _ s _ h _ => wipeS_vt h (Qu.str s)⟩
theorem actWipeR (lo : Nat) (w : World) : ActF lo w .wipeR (.func (.func 79) #[] #[]) := ⟨79, #[], rfl, enters_of Tryz.func79 (by kernel_rfl) rfl, fun _ _ _ s _ h _ => wipeR_vt h (Qu.str s)⟩
theorem actReply (lo : Nat) (w : World) : ActF lo w .reply (.func (.func 83) #[] #[]) := ⟨83, #[], rfl, enters_of Tryz.func83 (by kernel_rfl) rfl, fun _ _ _ s _ h _ => reply_vt h (Qu.str s)⟩
theorem actBegin (lo : Nat) (w : World) : ActF lo w .begin (.func (.func 63) #[] #[]) := ⟨63, #[], rfl, enters_of Tryz.func63 (by kernel_rfl) rfl, fun _ _ _ s _ h _ => begin_vt h (Qu.str s)⟩

section
variable (w : World)
theorem step_mk (r c : Int) : Calls Tryz.prog 71 #[.int .i64 r, .int .i64 c] w fun e w' => ∃ caps, e = .returned (.func (.func 93) #[] caps) ∧ ActF w.heap.size w' (.step r c) (.func (.func 93) #[] caps) ∧ Kept0 w w' := by
  go_enter Tryz.func71, Tryz.ntmps71
  go_wp2_with fail
  go_ret
  refine ⟨_, rfl, ⟨93, _, rfl, enters_of Tryz.func93 (by kernel_rfl) rfl, fun W a v s k h _ => step_vt h (Qu.str s) r c _ _ ?_ ?_⟩, ((Kept.refl _ w).alloc _).alloc _⟩
  · exact kcellS k (by simp [go_sem]) (by omega)
  · exact kcellS k (by simp [go_sem]) (by omega)
theorem feed_mk (n : Int) (hn : -9223372036854775808 ≤ n ∧ n ≤ 9223372036854775807) : Calls Tryz.prog 73 #[.int .i64 n] w fun e w' => ∃ caps, e = .returned (.func (.func 95) #[] caps) ∧ ActF w.heap.size w' (.feed n) (.func (.func 95) #[] caps) ∧ Kept0 w w' := by
  have HN := Lib.hid hn
  clear hn
  go_enter Tryz.func73, Tryz.ntmps73
  go_wp2_with fail
  go_ret
  refine ⟨_, rfl, ⟨95, _, rfl, enters_of Tryz.func95 (by kernel_rfl) rfl, fun W a v s k h _ => line_vt h (Qu.str s) n HN.out _ ?_⟩, (Kept.refl _ w).alloc _⟩
  exact kcellS k (by simp [go_sem]) (by omega)
theorem graph_mk (b : Bool) : Calls Tryz.prog 80 #[.bool b] w fun e w' => ∃ caps, e = .returned (.func (.func 102) #[] caps) ∧ ActF w.heap.size w' (.graph b) (.func (.func 102) #[] caps) ∧ Kept0 w w' := by
  go_enter Tryz.func80, Tryz.ntmps80
  go_wp2_with fail
  go_ret
  refine ⟨_, rfl, ⟨102, _, rfl, enters_of Tryz.func102 (by kernel_rfl) rfl, fun W a v s k h _ => graph_vt h (Qu.str s) b _ ?_⟩, (Kept.refl _ w).alloc _⟩
  exact kcellS k (by simp [go_sem]) (by omega)
theorem keypad_mk (b : Bool) : Calls Tryz.prog 81 #[.bool b] w fun e w' => ∃ caps, e = .returned (.func (.func 103) #[] caps) ∧ ActF w.heap.size w' (.keypad b) (.func (.func 103) #[] caps) ∧ Kept0 w w' := by
  go_enter Tryz.func81, Tryz.ntmps81
  go_wp2_with fail
  go_ret
  refine ⟨_, rfl, ⟨103, _, rfl, enters_of Tryz.func103 (by kernel_rfl) rfl, fun W a v s k h _ => keypad_vt h (Qu.str s) b _ ?_⟩, (Kept.refl _ w).alloc _⟩
  exact kcellS k (by simp [go_sem]) (by omega)
theorem hold_mk (b : Bool) : Calls Tryz.prog 82 #[.bool b] w fun e w' => ∃ caps, e = .returned (.func (.func 104) #[] caps) ∧ ActF w.heap.size w' (.hold b) (.func (.func 104) #[] caps) ∧ Kept0 w w' := by
  go_enter Tryz.func82, Tryz.ntmps82
  go_wp2_with fail
  go_ret
  refine ⟨_, rfl, ⟨104, _, rfl, enters_of Tryz.func104 (by kernel_rfl) rfl, fun W a v s k h _ => hold_vt h (Qu.str s) b _ ?_⟩, (Kept.refl _ w).alloc _⟩
  exact kcellS k (by simp [go_sem]) (by omega)
end
end Go.Proofs.YtlhajbcabpfbkaaGreatDoor
