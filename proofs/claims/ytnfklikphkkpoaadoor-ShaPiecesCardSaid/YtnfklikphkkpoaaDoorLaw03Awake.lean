/-
The walk that all statements of layer 3 begin with: the known digest, at once and in pieces, out of the contracts of package sha.
-/
import Derived.Test.YtnfklikphkkpoaaDoorShaFace
import Derived.Lib.SlBytesConst
namespace Go.Proofs.YtnfklikphkkpoaaDoor
open Go.RowKit
theorem apart_new {g n : Nat} {a b : Nat} (h : n ≠ g) : Apart (.slice (some ⟨n, 0, none⟩) a b) g := fun ad len cap e => by cases e; exact h
theorem bytes_lt (l : List (BitVec 32)) (h : ∀ x ∈ l, x.toNat < 256) : ∀ x ∈ l, u32 x < 256 := fun x hx => by unfold u32; have := h x hx; omega
theorem convert_bytes (w : World) (C : Array Value) (n c : Nat) : (convert 22 22 (.slice (some ⟨w.heap.size, 0, none⟩) n c)).run Tryd.prog (w.alloc (.cells C 5)) = .ok (.slice (some ⟨w.heap.size, 0, none⟩) n c) (w.alloc (.cells C 5 (C.size, C.size + 1))) :=
  Lib.run_convert_bytes_const w 22 5 C n c Tryd.underlying22 Tryd.underlying5
set_option maxHeartbeats 2000000 in
theorem awake3_any {Inv : World → Nat → List (BitVec 32) → Prop} (F : HashFace Inv) (w : World) (tab : Tab w) :
    Calls Tryd.prog 9 #[] w fun e w' => e = .returned (.bool true) ∧ Below w.heap.size w w' := by
  have hq := knownEq
  have hg1 := guard_rowV digestGuard (.tmp 15) (.tmp 16) .u8 32 (fun i => BitVec.ofNat 32 (knownB.getD i 0)) (fun i => BitVec.ofNat 32 (knownB.getD i 0))
  have hg2 := guard_rowV digestGuard (.tmp 20) (.tmp 21) .u8 32 (fun i => BitVec.ofNat 32 (knownB.getD i 0)) (fun i => BitVec.ofNat 32 (knownB.getD i 0))
  change ∀ w, (eqGuard .eql 25 (.tmp 15) (.tmp 16) knownV knownV).run Tryd.prog w = .ok () w at hg1
  change ∀ w, (eqGuard .eql 25 (.tmp 20) (.tmp 21) knownV knownV).run Tryd.prog w = .ok () w at hg2
  have hT := Lib.hid tab
  have b97 := bytes_lt [97#32] (by intro x hx; simp at hx; subst hx; decide)
  have b98 := bytes_lt [98#32, 99#32] (by intro x hx; simp at hx; rcases hx with rfl | rfl <;> decide)
  have babc := bytes_lt abc (by intro x hx; simp [abc] at hx; rcases hx with rfl | rfl | rfl <;> decide)
  have hcv := convert_bytes
  have HB := Lib.hid (And.intro b97 (And.intro b98 babc))
  clear tab b97 b98 babc
  go_enter Tryd.func9, Tryd.ntmps9
  go_wp2_with (first | (go_at_call 14; refine (F.new _ hT.out).mono ?_; rintro e w1 ⟨g, rfl, hgl, hi1, hb1⟩; have HI1 := Lib.hid hi1; have hlt := F.lt _ _ _ hi1; clear hi1) | (go_at_call 15; refine (F.write _ g [] _ [97#32] (tab_keep hT.out (hb1.alloc hb1.size _) (Nat.le_refl _)) (F.keep _ _ _ _ HI1.out (by rw [heap_at_alloc, if_neg (by omega)])) (has_new _ 5 _ _) (fun _ => apart_new (by omega)) (by simp) HB.out.1 (by decide)).mono ?_; rintro e w2 ⟨rfl, hi2, ho2⟩; have HI2 := Lib.hid hi2; have B2 := ho2.below (hb1.alloc hb1.size _) hgl (Nat.le_trans hb1.size (by simp)); have hlt2 := F.lt _ _ _ hi2; clear hi2 ho2 hb1 HI1 hlt) | (go_at_call 15; refine (F.write _ g [97#32] _ [98#32, 99#32] (tab_keep hT.out (B2.alloc B2.size _) (Nat.le_refl _)) (F.keep _ _ _ _ HI2.out (by rw [heap_at_alloc, if_neg (by omega)])) (has_new _ 5 _ _) (fun _ => apart_new (by omega)) HB.out.1 HB.out.2.1 (by decide)).mono ?_; rintro e w3 ⟨rfl, hi3, ho3⟩; have HI3 := Lib.hid (show Inv w3 g abc from hi3); have B3 := ho3.below (B2.alloc B2.size _) hgl (Nat.le_trans B2.size (by simp)); have hlt3 := F.lt _ _ _ hi3; clear hi3 ho3 B2 HI2 hlt2) | (go_at_call 10; refine (F.sum _ _ abc (tab_keep hT.out (B3.alloc B3.size _) (Nat.le_refl _)) (has_new _ 5 _ _) HB.out.2.2 (by decide)).mono ?_; rintro e w4 ⟨rfl, hb4⟩; rw [sum_abc_V]; have B4 := (B3.alloc B3.size _).trans (hb4.mono (Nat.le_trans B3.size (by simp))); have HI4 := Lib.hid (F.keep _ _ _ _ HI3.out ((hb4.block g (by simp; omega)).trans (by rw [heap_at_alloc, if_neg (by omega)]))); have hlt4 := F.lt _ _ _ HI4.out; clear hb4 B3 HI3 hlt3) | (go_at_call 20; refine (known_any w4).mono ?_; rintro e w5 ⟨rfl, hb5⟩; have B5 := below_next B4 hb5; have HI5 := Lib.hid (F.keep _ _ _ _ HI4.out (hb5.block g hlt4)); clear hb5 B4 HI4 hlt4) | (go_at_call 16; refine (F.told _ g abc (tab_keep hT.out B5 (Nat.le_refl _)) HI5.out HB.out.2.2 (by decide)).mono ?_; rintro e w6 ⟨rfl, hb6⟩; rw [sum_abc_V]; have B6 := below_next B5 hb6; have HI6 := Lib.hid (F.keep _ _ _ _ HI5.out (hb6.block g (F.lt _ _ _ HI5.out))); clear hb6 B5 HI5) | (go_at_call 20; refine (known_any w6).mono ?_; rintro e w7 ⟨rfl, hb7⟩; have B7 := below_next B6 hb7; have HI7 := Lib.hid (F.keep _ _ _ _ HI6.out (hb7.block g (F.lt _ _ _ HI6.out))); clear hb7 B6 HI6) | (go_at_call 17; refine (F.len _ g abc HI7.out (by decide)).mono ?_; rintro e w8 ⟨rfl, hb8⟩; have B8 := below_next B7 hb8; clear hb8 B7))
  go_ret
  exact ⟨rfl, B8⟩
end Go.Proofs.YtnfklikphkkpoaaDoor
