/-
The walk of the statement on the constants.
-/
import Derived.Test.YtnlnjgjggohdfaaDoorLaw01Walks
import Derived.Test.YtnlnjgjggohdfaaDoorRef01Consts
namespace Go.Proofs.YtnlnjgjggohdfaaDoor
open Go.RowKit
theorem first_same : ∀ w, (binOp .eql 31 firstV firstV).run Tryd.prog w = .ok (.bool true) w := fun _ => by kernel_rfl
theorem first_guard : ∀ w, (eqGuard .eql 31 (.tmp 14) (.tmp 15) firstV firstV).run Tryd.prog w = .ok () w := fun _ => by kernel_rfl
set_option maxHeartbeats 1000000 in
theorem bitsConstants_in (i : Nat) (hi : i < 64) (w : World) (hc0 : w.cell? ⟨0, 0, none⟩ = some (.int .u32 1116352408)) (hci : w.cell? ⟨0, i, none⟩ = some (.int .u32 (kWord i))) :
    Calls Tryd.prog 5 #[.int .i64 i] w fun e w' => e = .returned (.bool true) ∧ Below w.heap.size w w' := by
  have hk : ∀ o, (w.alloc o).cell? ⟨0, (i : Int).toNat, none⟩ = some (.int .u32 (kWord i)) := fun o => by
    rw [Int.toNat_natCast]; exact (World.cell?_alloc_lt _ _ _ (World.block_lt_of_cell? _ _ hci)).trans hci
  have HK := Lib.hid hk
  have hq := first_same
  have hg := first_guard
  have hb0 := (Below.refl w.heap.size w).alloc (Nat.le_refl _) firstO
  clear hci hk
  go_enter Tryd.func5, Tryd.ntmps5
  go_wp2_with (first | (go_at_call 9; refine (awake_any _ hc0).mono ?_; rintro e w' ⟨rfl, rfl⟩) | (go_at_call 24; refine (k_in _ _ _ (by omega) (by omega) (HK.out _)).mono ?_; rintro e w' ⟨rfl, rfl⟩) | (go_at_call 25; refine (refK_in i hi _).mono ?_; rintro e w1 ⟨rfl, hb1⟩) | (go_at_call 26; refine (first_any _).mono ?_; rintro e w' ⟨rfl, rfl⟩) | (go_at_call 27; refine (refFirst_any _).mono ?_; rintro e w2 ⟨rfl, hb2⟩))
  go_ret
  have hs0 : w.heap.size ≤ (w.alloc firstO).heap.size := hb0.size
  have h1 := hb0.trans (hb1.mono hs0)
  have h2 := h1.alloc h1.size firstO
  exact ⟨rfl, h2.trans (hb2.mono h2.size)⟩
set_option maxHeartbeats 1000000 in
theorem bitsConstants_out (i : Int) (h : i < 0 ∨ 64 ≤ i) (w : World) (hc0 : w.cell? ⟨0, 0, none⟩ = some (.int .u32 1116352408)) :
    Calls Tryd.prog 5 #[.int .i64 i] w fun e w' => e = .returned (.bool true) ∧ Below w.heap.size w w' := by
  have hq := first_same
  have hg := first_guard
  have hb0 := (Below.refl w.heap.size w).alloc (Nat.le_refl _) firstO
  have H := Lib.hid h
  clear h
  go_enter Tryd.func5, Tryd.ntmps5
  go_wp2_with (first | (go_at_call 9; refine (awake_any _ hc0).mono ?_; rintro e w' ⟨rfl, rfl⟩) | (go_at_call 24; refine (k_out _ _ H.out).mono ?_; rintro e w' ⟨rfl, rfl⟩) | (go_at_call 25; refine (refK_out _ _ H.out).mono ?_; rintro e w1 ⟨rfl, rfl⟩) | (go_at_call 26; refine (first_any _).mono ?_; rintro e w' ⟨rfl, rfl⟩) | (go_at_call 27; refine (refFirst_any _).mono ?_; rintro e w2 ⟨rfl, hb2⟩))
  go_ret
  have h2 := hb0.alloc hb0.size firstO
  exact ⟨rfl, h2.trans (hb2.mono h2.size)⟩
end Go.Proofs.YtnlnjgjggohdfaaDoor
