/-
The walks of the statements of layer 3 on Sum, Pad and a Hash that is nil, out of the contracts of package sha.
-/
import Derived.Test.YtnfklikphkkpoaaDoorLaw03Awake
import Derived.Test.YtnfklikphkkpoaaDoorRef03Sum
namespace Go.Proofs.YtnfklikphkkpoaaDoor
open Go.RowKit
theorem refSum_V (bs : List (BitVec 32)) (hbs : ∀ x ∈ bs, u32 x < 256) (hlen : bs.length ≤ 1099511627776) (v : Value) (w : World) (hv : HasBytes w v bs) :
    Calls Tryd.prog 11 #[v] w fun e w' => e = .returned (rowV .u8 32 (sumF bs)) ∧ Below w.heap.size w w' := refSum_any bs hbs hlen v w hv
theorem digestEq (f : Nat → BitVec 32) : ∀ w, (binOp .eql 25 (rowV .u8 32 f) (rowV .u8 32 f)).run Tryd.prog w = .ok (.bool true) w :=
  eql_rowV Tryd.underlying25 Tryd.underlying5 (by kernel_rfl) _ _ (sameRow_self _ _)
set_option maxHeartbeats 1000000 in
theorem shaSums_walk {Inv : World → Nat → List (BitVec 32) → Prop} (F : HashFace Inv) (bs : List (BitVec 32)) (hbs : ∀ x ∈ bs, u32 x < 256) (v : Value) (w : World) (tab : Tab w) (hv : HasBytes w v bs) (hlen : bs.length ≤ maxLen) :
    Calls Tryd.prog 3 #[v] w fun e w' => e = .returned (.bool true) ∧ Below w.heap.size w w' := by
  have hq := digestEq (sumF bs)
  have hg := guard_rowV digestGuard (.tmp 12) (.tmp 14) .u8 32 (sumF bs) (sumF bs)
  have HV := Lib.hid hv
  have HT := Lib.hid tab
  have HB := Lib.hid hbs
  clear tab hbs
  have hl : bs.length < 9223372036854775808 := by unfold maxLen at hlen; omega
  clear hlen
  obtain ⟨ao, cap, rfl, -⟩ := hv
  by_cases h4 : 4000 < bs.length
  · go_enter Tryd.func3, Tryd.ntmps3
    go_wp2_with (first | (go_at_call 9; refine (awake3_any F _ HT.out).mono ?_; rintro e w1 ⟨rfl, hb1⟩))
    go_ret
    exact ⟨rfl, hb1⟩
  · go_enter Tryd.func3, Tryd.ntmps3
    go_wp2_with (first | (go_at_call 9; refine (awake3_any F _ HT.out).mono ?_; rintro e w1 ⟨rfl, hb1⟩) | (go_at_call 10; refine (F.sum _ _ bs (tab_keep HT.out hb1 (Nat.le_refl _)) (has_below HV.out hb1) HB.out (by omega)).mono ?_; rintro e w2 ⟨rfl, hb2⟩; have B2 := below_next hb1 hb2) | (go_at_call 11; refine (refSum_V bs HB.out (by omega) _ _ (has_below HV.out B2)).mono ?_; rintro e w3 ⟨rfl, hb3⟩; have B3 := below_next B2 hb3))
    go_ret
    exact ⟨rfl, B3⟩
theorem zeroEq : ∀ w, (binOp .eql 25 (rowV .u8 32 fun _ => 0#32) (.agg #[.int .u8 0, .int .u8 0, .int .u8 0, .int .u8 0, .int .u8 0, .int .u8 0, .int .u8 0, .int .u8 0, .int .u8 0, .int .u8 0, .int .u8 0, .int .u8 0, .int .u8 0, .int .u8 0, .int .u8 0, .int .u8 0, .int .u8 0, .int .u8 0, .int .u8 0, .int .u8 0, .int .u8 0, .int .u8 0, .int .u8 0, .int .u8 0, .int .u8 0, .int .u8 0, .int .u8 0, .int .u8 0, .int .u8 0, .int .u8 0, .int .u8 0, .int .u8 0])).run Tryd.prog w = .ok (.bool true) w := digestEq fun _ => 0#32
theorem zeroGuard (x y : Operand) : ∀ w, (eqGuard .eql 25 x y (rowV .u8 32 fun _ => 0#32) (.agg #[.int .u8 0, .int .u8 0, .int .u8 0, .int .u8 0, .int .u8 0, .int .u8 0, .int .u8 0, .int .u8 0, .int .u8 0, .int .u8 0, .int .u8 0, .int .u8 0, .int .u8 0, .int .u8 0, .int .u8 0, .int .u8 0, .int .u8 0, .int .u8 0, .int .u8 0, .int .u8 0, .int .u8 0, .int .u8 0, .int .u8 0, .int .u8 0, .int .u8 0, .int .u8 0, .int .u8 0, .int .u8 0, .int .u8 0, .int .u8 0, .int .u8 0, .int .u8 0])).run Tryd.prog w = .ok () w := guard_rowV digestGuard x y .u8 32 (fun _ => 0#32) (fun _ => 0#32)
theorem has_nil (w : World) : HasBytes w (.slice none 0 0) [] := ⟨none, 0, rfl, fun _ => ⟨rfl, rfl⟩, fun _ h => by cases h⟩
theorem apart_nil (g : Nat) : Apart (.slice none 0 0) g := fun ad len cap e => by cases e
set_option maxHeartbeats 2000000 in
theorem shaNobody_walk {Inv : World → Nat → List (BitVec 32) → Prop} (F : HashFace Inv) (bs : List (BitVec 32)) (v : Value) (w : World) (tab : Tab w) (hv : HasBytes w v bs) :
    Calls Tryd.prog 8 #[v] w fun e w' => e = .returned (.bool true) ∧ Below w.heap.size w w' := by
  have hz := zeroEq
  have hzg := zeroGuard (.tmp 18) (.tmp 19)
  obtain ⟨s0, hs0⟩ : ∃ s, sumF [] = s := ⟨_, rfl⟩
  have hq := digestEq s0
  have hg := guard_rowV digestGuard (.tmp 29) (.tmp 30) .u8 32 s0 s0
  have HS0 := Lib.hid hs0
  clear hs0
  have HV := Lib.hid hv
  have HT := Lib.hid tab
  clear tab hv
  go_enter Tryd.func8, Tryd.ntmps8
  go_wp2_with (first | (go_at_call 9; refine (awake3_any F _ HT.out).mono ?_; rintro e w1 ⟨rfl, hb1⟩) | (go_at_call 15; (with_reducible refine (F.writeNil _ _ bs (has_below HV.out hb1)).mono ?_); rintro e w2 ⟨rfl, hb2⟩; have B2 := below_next hb1 hb2) | (go_at_call 14; refine (F.new _ (tab_keep HT.out B2 (Nat.le_refl _))).mono ?_; rintro e w3 ⟨g, rfl, hg3, hi3, hb3⟩; have B3 := below_next B2 hb3; have HI3 := Lib.hid hi3; have hgl : w.heap.size ≤ g := Nat.le_trans B2.size hg3; clear hi3 hb3) | (go_at_call 15; refine (F.write _ g [] _ [] (tab_keep HT.out B3 (Nat.le_refl _)) HI3.out (has_nil _) (fun _ => apart_nil _) (by simp) (by simp) (by decide)).mono ?_; rintro e w4 ⟨rfl, hi4, ho4⟩; have HI4 := Lib.hid (show Inv w4 g [] from hi4); have B4 := ho4.below B3 hgl B3.size; clear hi4 ho4) | (go_at_call 16; (with_reducible refine (F.toldNil _).mono ?_); rintro e w5 ⟨rfl, hb5⟩; have B5 := below_next B4 hb5; have HI5 := Lib.hid (F.keep _ _ _ _ HI4.out (hb5.block g (F.lt _ _ _ HI4.out))); clear hb5) | (go_at_call 17; (with_reducible refine (F.lenNil _).mono ?_); rintro e w6 ⟨rfl, hb6⟩; have B6 := below_next B5 hb6; have HI6 := Lib.hid (F.keep _ _ _ _ HI5.out (hb6.block g (F.lt _ _ _ HI5.out))); clear hb6) | (go_at_call 16; refine (F.told _ g [] (tab_keep HT.out B6 (Nat.le_refl _)) HI6.out (by simp) (by decide)).mono ?_; rintro e w7 ⟨rfl, hb7⟩; rw [HS0.out]; have B7 := below_next B6 hb7; have HI7 := Lib.hid (F.keep _ _ _ _ HI6.out (hb7.block g (F.lt _ _ _ HI6.out))); clear hb7) | (go_at_call 10; refine (F.sum _ _ [] (tab_keep HT.out B7 (Nat.le_refl _)) (has_nil _) (by simp) (by decide)).mono ?_; rintro e w8 ⟨rfl, hb8⟩; rw [HS0.out]; have B8 := below_next B7 hb8; have HI8 := Lib.hid (F.keep _ _ _ _ HI7.out (hb8.block g (F.lt _ _ _ HI7.out))); clear hb8) | (go_at_call 17; refine (F.len _ g [] HI8.out (by decide)).mono ?_; rintro e w9 ⟨rfl, hb9⟩; have B9 := below_next B8 hb9; clear hb9))
  go_ret
  exact ⟨rfl, B9⟩
end Go.Proofs.YtnfklikphkkpoaaDoor
