/-
What the document's own Pad returns: the bytes behind n bytes, in a row of its own.
-/
import Derived.Test.YtnfklikphkkpoaaDoorProg
import Derived.Test.YtnfklikphkkpoaaDoorSha
import Derived.Test.YtnfklikphkkpoaaDoorMem
import Derived.WalkKit
import Derived.Lib.Hide
import Derived.WalkSpells
import Derived.WalkLawsBesides
namespace Go.Proofs.YtnfklikphkkpoaaDoor
open Go.RowKit
theorem infoByte : (Tryd.prog.info? 5).map (fun i => (i.zero, i.size, i.bytes)) = some (some (.int .u8 0), 1, 1) := by kernel_rfl
set_option maxHeartbeats 2000000 in
theorem refPad_any (n : Nat) (hn : n ≤ 1099511627776) (w : World) :
    Calls Tryd.prog 13 #[.int .i64 n] w fun e w' => ∃ v, e = .returned v ∧ w'.ownsRow w.heap.size 5 1 v (padB n).length (bytesL (padB n)) ∧ Below w.heap.size w w' := by
  obtain ⟨i0, hi, hz0, hz1, hz2⟩ := info_parts infoByte
  have hz := padZeros_lt n
  go_enter Tryd.func13, Tryd.ntmps13
  go_wp2
  go_loopw [3] (fun v wr => ∃ j : Nat, j ≤ padZeros n ∧ (∃ g cap, v = .slice (some ⟨g, 0, none⟩) (j + 1) cap) ∧ wr.ownsRow w.heap.size 5 1 v (j + 1) (bytesL (padHead j)) ∧ Below w.heap.size w wr) (fun v _ => match v with | .slice _ l _ => 100 - l | _ => 0)
  case atStart =>
    refine ⟨0, by omega, ⟨_, _, rfl⟩, ⟨rfl, .inr ⟨_, 1, _, rfl, Nat.le_refl _, heap_last w _, Nat.le_refl _, by decide, rfl, rfl⟩⟩, (Below.refl _ _).alloc (Nat.le_refl _) _⟩
  case round =>
    obtain ⟨j, hj, ⟨g, cap, rfl⟩, hown, hb⟩ := hrel
    have hbs := hb.size
    by_cases hlt : j < padZeros n
    · have ht := padZeros_not n j hlt
      have ht2 : ((n : Int) + ((j : Int) + 1) + 8) % 64 ≠ 0 := by omega
      have HO := Lib.hid hown
      clear ht hown
      go_wp2_with (first | (at_builtin; refine wpList_append_own _ rfl (.tmp 22) (.tmp 23) 22 rfl w.heap.size 5 i0 (.int .u8 0) 1 1 Tryd.underlying22 hi hz0 hz1 hz2 rfl (by decide) _ _ _ rfl (HO.out.alloc _) ⟨wr.heap.size, 0, none⟩ 1 1 [.int .u8 0] rfl rfl (new_one _ _ _) (one_int _ _) (by unfold maxLen; omega) (by omega) (by simp; omega) ?_; intro v' w1 hown' hgrow hnil; clear hnil))
      obtain ⟨g', cap', cur, rfl, -⟩ := own_shape hown' (by omega)
      go_roundw
      case rel => exact ⟨j + 1, by omega, ⟨_, _, rfl⟩, by rw [padHead_succ, bytesL_append]; exact hown', below_grown (hb.alloc hb.size _) hgrow (by simp; omega) fun k hk => (HO.out.lt k hk).1⟩
      case measure => simp; omega
    · obtain rfl : j = padZeros n := by omega
      have ht2 : ((n : Int) + ((padZeros n : Int) + 1) + 8) % 64 = 0 := by have := padZeros_end n; omega
      have HT := Lib.hid (show decide (((n : Int) + ((padZeros n : Int) + 1) + 8) % 64 = 0) = true from decide_eq_true ht2)
      have HO := Lib.hid hown
      have HB := Lib.hid hb
      clear hown hb
      go_wp2
      go_loopw [3, 5] (fun v c wr => ∃ i : Nat, i ≤ 8 ∧ c = .int .i64 i ∧ (∃ g cap, v = .slice (some ⟨g, 0, none⟩) (padZeros n + 1 + i) cap) ∧ wr.ownsRow w.heap.size 5 1 v (padZeros n + 1 + i) (bytesL (padUpTo n i)) ∧ Below w.heap.size w wr) (fun _ c _ => 8 - (intOf c).toNat)
      case atStart => exact ⟨0, by omega, rfl, ⟨_, _, rfl⟩, by rw [padUpTo_zero]; exact HO.out, HB.out⟩
      case round =>
        clear HO HB HT ht2 hbs hlt hj
        obtain ⟨i, hi8, rfl, ⟨g, cap, rfl⟩, hown, hb⟩ := hrel
        have hbs := hb.size
        have HO := Lib.hid hown
        clear hown
        by_cases hlt : i < 8
        · go_wp2
          go_loop [6, 7] (fun x c => ∃ k : Nat, i ≤ k ∧ k ≤ 7 ∧ c = .int .i64 k ∧ x = .int .i64 ((8 * n / 256 ^ (k - i) : Nat) : Int)) (fun _ c => 8 - (intOf c).toNat)
          case atStart => exact ⟨i, by omega, by omega, rfl, by simp⟩
          case round =>
            obtain ⟨k, hk1, hk2, rfl, rfl⟩ := hrel
            have hy : 8 * n / 256 ^ (k - i) ≤ 8796093022208 := Nat.le_trans (Nat.div_le_self _ _) (by omega)
            by_cases hk7 : k < 7
            · obtain ⟨y, hy2⟩ : ∃ y, y = 8 * n / 256 ^ (k - i) := ⟨_, rfl⟩
              rw [← hy2] at hy ⊢
              have HY := Lib.hid hy2
              clear hy2
              go_wp2
              go_round
              case rel =>
                refine ⟨k + 1, by omega, by omega, by go_num, ?_⟩
                rw [show k + 1 - i = (k - i) + 1 from by omega, Nat.pow_succ, ← Nat.div_div_eq_div_mul, ← HY.out]; simp
              case measure => simp [intOf]; omega
            · obtain rfl : k = 7 := by omega
              obtain ⟨y, hy2⟩ : ∃ y, y = 8 * n / 256 ^ (7 - i) := ⟨_, rfl⟩
              rw [← hy2] at hy ⊢
              have HY := Lib.hid hy2
              clear hy2
              go_wp2_with (first | (at_builtin; refine wpList_append_own _ rfl (.tmp 39) (.tmp 43) 22 rfl w.heap.size 5 i0 (.int .u8 0) 1 1 Tryd.underlying22 hi hz0 hz1 hz2 rfl (by decide) _ _ _ rfl (HO.out.alloc _) ⟨wr.heap.size, 0, none⟩ 1 1 [.int .u8 ((y : Int) % 256)] rfl rfl (new_one _ _ _) (one_int _ _) (by unfold maxLen; omega) (by omega) (by simp; omega) ?_; intro v' w1 hown' hgrow hnil; clear hnil))
              obtain ⟨g', cap', cur, rfl, -⟩ := own_shape hown' (by omega)
              go_roundw
              case rel =>
                refine ⟨i + 1, by omega, by go_num, ⟨_, _, rfl⟩, ?_, below_grown (hb.alloc hb.size _) hgrow (by simp; omega) fun k hk => (HO.out.lt k hk).1⟩
                rw [padUpTo_succ, bytesL_append, show bytesL [lenByte n i] = [.int .u8 ((y : Int) % 256)] from by simp [bytesL, u32_lenByte, HY.out]]; exact hown'
              case measure => simp [intOf]; omega
        · obtain rfl : i = 8 := by omega
          go_wp2
          go_ret
          exact ⟨_, rfl, by rw [padB_length]; exact HO.out, hb⟩
set_option maxHeartbeats 1000000 in
theorem refPad_out (n : Int) (hn : n < 0 ∨ 1099511627776 < n) (w : World) :
    Calls Tryd.prog 13 #[.int .i64 n] w fun e w' => e = .returned (.slice none 0 0) ∧ w = w' := by
  by_cases h0 : n < 0
  · go_enter Tryd.func13, Tryd.ntmps13
    go_wp2
    go_ret
    exact ⟨rfl, rfl⟩
  · have h1 : 1099511627776 < n := by omega
    go_enter Tryd.func13, Tryd.ntmps13
    go_wp2
    go_ret
    exact ⟨rfl, rfl⟩
end Go.Proofs.YtnfklikphkkpoaaDoor
