/-
The walk of the statement of layer 3 on pieces, out of the contracts of package sha: in whatever pieces bytes are written, and whatever is told between, the digest is that of all of them.
-/
import Derived.Test.YtnfklikphkkpoaaDoorLaw03Sums
import Derived.Test.YtnfklikphkkpoaaDoorOpenRows
namespace Go.Proofs.YtnfklikphkkpoaaDoor
open Go.RowKit
theorem neq_rowV {P : Program} {t e : TypeId} {k : IntKind} {n : Nat} (ht : P.underlying t = some (.array n e)) (he : P.underlying e = some (.int k)) (hc : P.cellsOf e = 1) (f g : Nat → BitVec 32) {b : Bool} (hb : sameRow n f g = b) :
    ∀ w, (binOp .neq t (rowV k n f) (rowV k n g)).run P w = .ok (.bool (!b)) w := fun w => by
  obtain ⟨inf, hinf⟩ := info_of he
  unfold rowV
  rw [← hb, run_neq_struct, run_equalIn_array w 9999 _ _ ht hinf, items_row w 9998 n f g he hc (List.range n) (by simp)]
  rfl
theorem guard_neq {P : Program} {t : TypeId} (hm : P.eqGuardType P.depth t = false) (x y : Operand) (k : IntKind) (n : Nat) (f g : Nat → BitVec 32) :
    ∀ w, (eqGuard .neq t x y (rowV k n f) (rowV k n g)).run P w = .ok () w := fun w => run_eqGuard_agg w .neq t x y _ _ hm
theorem digestNeq (f : Nat → BitVec 32) : ∀ w, (binOp .neq 25 (rowV .u8 32 f) (rowV .u8 32 f)).run Tryd.prog w = .ok (.bool false) w :=
  neq_rowV Tryd.underlying25 Tryd.underlying5 (by kernel_rfl) _ _ (sameRow_self _ _)
/-- What a call has made stays its own while one other block, and new memory, is all that changes. -/
theorem own_only {w w' : World} {base g : Nat} {e : TypeId} {size : Nat} {v : Value} {n : Nat} {xs : List Value} (h : w.ownsRow base e size v n xs) (ho : OnlyAt g w w') (hg : g < base) : w'.ownsRow base e size v n xs := by
  refine ⟨h.1, ?_⟩
  rcases h.2 with hn | ⟨b, cap, cur, rfl, hbase, hb, rest⟩
  · exact .inl hn
  · exact .inr ⟨b, cap, cur, rfl, hbase, (ho.block b (Array.getElem?_eq_some_iff.1 hb).1 (by omega)).trans hb, rest⟩
theorem own_slice {w : World} {base : Nat} {e : TypeId} {size : Nat} {v : Value} {n : Nat} {xs : List Value} (h : w.ownsRow base e size v n xs) : ∃ ao cap, v = .slice ao n cap := by
  rcases h.2 with ⟨rfl, rfl⟩ | ⟨b, cap, cur, rfl, -⟩
  · exact ⟨_, _, rfl⟩
  · exact ⟨_, _, rfl⟩
set_option maxHeartbeats 4000000 in
theorem shaPieces_walk {Inv : World → Nat → List (BitVec 32) → Prop} (F : HashFace Inv) (ls : List (List (BitVec 32))) (hls : ∀ l ∈ ls, (∀ x ∈ l, u32 x < 256) ∧ l.length ≤ 140737488351232) (v : Value) (w : World) (tab : Tab w) (hv : HasRows w v ls) (hmax : ls.length ≤ maxLen) :
    Calls Tryd.prog 5 #[v] w fun e w' => e = .returned (.bool true) ∧ Below w.heap.size w w' := by
  obtain ⟨i0, hi, hz0, hz1, hz2⟩ := info_parts infoByte
  have HT := Lib.hid tab
  have HLS := Lib.hid hls
  obtain ⟨vo, vcap, rfl, hvn, hve⟩ := hv
  have HVE := Lib.hid (And.intro hvn hve)
  have hl : ls.length < 9223372036854775808 := by unfold maxLen at hmax; omega
  clear tab hls hvn hve hmax
  go_enter Tryd.func5, Tryd.ntmps5
  go_wp2_with (first | (go_at_call 9; refine (awake3_any F _ HT.out).mono ?_; rintro e w1 ⟨rfl, hb1⟩) | (go_at_call 14; refine (F.new _ (tab_keep HT.out hb1 (Nat.le_refl _))).mono ?_; rintro e w2 ⟨g, rfl, hg2, hi2, hb2⟩; have HB2 := Lib.hid (below_next hb1 hb2); have HI2 := Lib.hid hi2; have lt2 := F.lt _ _ _ hi2; have hgl : w.heap.size ≤ g := Nat.le_trans hb1.size hg2; clear hi2 hb2 hg2 hb1))
  go_loopw [5, 6] (fun u c wr => ∃ (i : Nat) (A : List (BitVec 32)), i ≤ ls.length ∧ i ≤ 30 ∧ c = .int .i64 i ∧ A.length ≤ 4000 ∧ (∀ x ∈ A, Go.Proofs.YtnfklikphkkpoaaDoor.u32 x < 256) ∧ (∃ ao cap, u = .slice ao A.length cap) ∧ Inv wr g A ∧ wr.ownsRow w2.heap.size 5 1 u A.length (bytesL A) ∧ w2.heap.size ≤ wr.heap.size ∧ Below w.heap.size w wr) (fun _ c _ => 30 - (intOf c).toNat)
  case atStart => exact ⟨0, [], by omega, by omega, rfl, by simp, by simp, ⟨none, 0, rfl⟩, HI2.out, ⟨rfl, .inl ⟨rfl, rfl⟩⟩, Nat.le_refl _, HB2.out⟩
  case round =>
    clear HI2 HB2
    obtain ⟨i, A, hil, hi30, rfl, hA4, hAb, ⟨ao, cap, rfl⟩, hinv, hown, hs, hb⟩ := hrel
    have HI := Lib.hid hinv
    have HO := Lib.hid hown
    have HB := Lib.hid hb
    have HAB := Lib.hid hAb
    clear hinv hown hb hAb
    have HI3 := HI
    have HO3 := HO
    have HB3 := HB
    have HS3 := Lib.hid hs
    clear HI HO HB hs
    by_cases hlt : i < ls.length
    · by_cases h30 : i < 30
      · obtain ⟨bs, hbs⟩ : ∃ bs, ls[i]? = some bs := ⟨ls[i], by simp [hlt]⟩
        cases vo with
        | none => rw [HVE.out.1 rfl] at hlt; exact absurd hlt (Nat.not_lt_zero _)
        | some vd =>
          obtain ⟨u, hcu, hub⟩ := HVE.out.2 vd rfl i bs hbs
          obtain ⟨hbb, hbl⟩ := HLS.out bs (List.mem_of_getElem? hbs)
          have HU := Lib.hid hub
          obtain ⟨bo, bcap, rfl, -⟩ := hub
          have cu := (World.cell?_of_block (HB3.out.block _ (World.block_lt_of_cell? w _ hcu))).trans hcu
          have q0 : (i : Int) < (ls.length : Int) := by omega
          have q1 : (i : Int) < 30 := by omega
          have HBB := Lib.hid hbb
          have HCU := Lib.hid hcu
          clear hcu hbb hbs
          by_cases h4 : 4000 < A.length + bs.length
          · have q2 : decide (4000 < (A.length : Int) + (bs.length : Int)) = true := decide_eq_true (by omega)
            clear HBB
            have hq := digestEq (sumF A)
            have hg1 := guard_rowV digestGuard (.tmp 55) (.tmp 57) .u8 32 (sumF A) (sumF A)
            have hg2 := guard_rowV digestGuard (.tmp 62) (.tmp 64) .u8 32 (sumF A) (sumF A)
            go_wp2_with (first | (go_at_call 16; refine (F.told _ g A (tab_keep HT.out HB3.out (Nat.le_refl _)) HI3.out HAB.out (by omega)).mono ?_; rintro e w4 ⟨rfl, hb⟩; have HI4 := Lib.hid (F.keep _ _ _ _ HI3.out (hb.block g (F.lt _ _ _ HI3.out))); have HO4 := Lib.hid (own_below HO3.out hb); have HB4 := Lib.hid (below_next HB3.out hb); have HS4 := Lib.hid (Nat.le_trans HS3.out hb.size); clear HI3 HO3 HB3 HS3 hb) | (go_at_call 10; refine (F.sum _ _ A (tab_keep HT.out HB4.out (Nat.le_refl _)) (has_of_own HO4.out) HAB.out (by omega)).mono ?_; rintro e w5 ⟨rfl, hb⟩; have HI5 := Lib.hid (F.keep _ _ _ _ HI4.out (hb.block g (F.lt _ _ _ HI4.out))); have HO5 := Lib.hid (own_below HO4.out hb); have HB5 := Lib.hid (below_next HB4.out hb); have HS5 := Lib.hid (Nat.le_trans HS4.out hb.size); clear HI4 HO4 HB4 HS4 hb) | (go_at_call 16; refine (F.told _ g A (tab_keep HT.out HB5.out (Nat.le_refl _)) HI5.out HAB.out (by omega)).mono ?_; rintro e w6 ⟨rfl, hb⟩; have HI6 := Lib.hid (F.keep _ _ _ _ HI5.out (hb.block g (F.lt _ _ _ HI5.out))); have HO6 := Lib.hid (own_below HO5.out hb); have HB6 := Lib.hid (below_next HB5.out hb); have HS6 := Lib.hid (Nat.le_trans HS5.out hb.size); clear HI5 HO5 HB5 HS5 hb) | (go_at_call 11; refine (refSum_V A HAB.out (by omega) _ _ (has_of_own HO6.out)).mono ?_; rintro e w7 ⟨rfl, hb⟩; have HI7 := Lib.hid (F.keep _ _ _ _ HI6.out (hb.block g (F.lt _ _ _ HI6.out))); have HO7 := Lib.hid (own_below HO6.out hb); have HB7 := Lib.hid (below_next HB6.out hb); have HS7 := Lib.hid (Nat.le_trans HS6.out hb.size); clear HI6 HO6 HB6 HS6 hb) | (go_at_call 17; refine (F.len _ g A HI7.out (by omega)).mono ?_; rintro e w8 ⟨rfl, hb⟩; have hbe := below_next HB7.out hb; clear hb))
            go_ret
            exact ⟨rfl, hbe⟩
          · have q2 : decide (4000 < (A.length : Int) + (bs.length : Int)) = false := decide_eq_false (by omega)
            obtain ⟨A', hA'⟩ : ∃ A', A' = A ++ bs := ⟨_, rfl⟩
            have hA4' : A'.length ≤ 4000 := by rw [hA', List.length_append]; omega
            have HAB' := Lib.hid (show ∀ x ∈ A', Go.Proofs.YtnfklikphkkpoaaDoor.u32 x < 256 from fun x hx => by rw [hA'] at hx; exact (List.mem_append.1 hx).elim (HAB.out x) (HBB.out x))
            have HA := Lib.hid hA'
            obtain ⟨r, hr⟩ : ∃ r : Nat, r = i % 3 := ⟨_, rfl⟩
            have e3 : (i : Int).tmod 3 = (r : Int) := by rw [Int.tmod_eq_emod_of_nonneg (by omega)]; omega
            clear hA' hr
            have hq := digestNeq (sumF A')
            have hg1 := guard_neq digestGuard (.tmp 47) (.tmp 49) .u8 32 (sumF A') (sumF A')
            by_cases hr0 : r = 0
            · subst hr0
              go_wp2_with (first | (go_at_call 15; refine (F.write _ g A _ bs (tab_keep HT.out HB3.out (Nat.le_refl _)) HI3.out (has_below HU.out HB3.out) (fun hne => apart_of_has HU.out hgl hne) HAB.out HBB.out (by omega)).mono ?_; rintro e w4 ⟨rfl, hi4, ho4⟩; rw [← HA.out] at hi4; have HI4 := Lib.hid hi4; have HO4 := Lib.hid (own_only HO3.out ho4 lt2); have HB4 := Lib.hid (ho4.below HB3.out hgl HB3.out.size); have HS4 := Lib.hid (Nat.le_trans HS3.out ho4.size); clear hi4 ho4 HI3 HO3 HB3 HS3 cu; have cu := (World.cell?_of_block (HB4.out.block _ (World.block_lt_of_cell? w _ HCU.out))).trans HCU.out) | (at_builtin; refine append_has rfl (.tmp 36) (.tmp 40) 22 rfl w2.heap.size 5 i0 Tryd.underlying22 hi hz0 hz1 hz2 _ A bs rfl HO4.out _ rfl (has_below HU.out HB4.out) (by omega) HS4.out ?_; intro v5 w5 ho5 hg5 hn5; rw [← HA.out] at ho5; have hrow := fun k hk => (HO4.out.lt k hk).1; obtain ⟨ao5, cap5, rfl⟩ := own_slice ho5; have HI5 := Lib.hid (F.keep _ _ _ _ HI4.out (hg5.block g (F.lt _ _ _ HI4.out) (fun h => absurd (hrow _ h.symm) (by omega)))); have HO5 := Lib.hid ho5; have HB5 := Lib.hid (below_grown HB4.out hg5 HB4.out.size (fun k hk => Nat.le_trans (Nat.le_of_lt (Nat.lt_of_le_of_lt hgl lt2)) (hrow k hk))); have HS5 := Lib.hid (Nat.le_trans HS4.out hg5.size); clear ho5 hg5 hn5 hrow HI4 HO4 HB4 HS4 cu) | (go_at_call 16; refine (F.told _ g A' (tab_keep HT.out HB5.out (Nat.le_refl _)) HI5.out HAB'.out (by omega)).mono ?_; rintro e w6 ⟨rfl, hb⟩; have HI6 := Lib.hid (F.keep _ _ _ _ HI5.out (hb.block g (F.lt _ _ _ HI5.out))); have HO6 := Lib.hid (own_below HO5.out hb); have HB6 := Lib.hid (below_next HB5.out hb); have HS6 := Lib.hid (Nat.le_trans HS5.out hb.size); clear HI5 HO5 HB5 HS5 hb) | (go_at_call 10; refine (F.sum _ _ A' (tab_keep HT.out HB6.out (Nat.le_refl _)) (has_of_own HO6.out) HAB'.out (by omega)).mono ?_; rintro e w7 ⟨rfl, hb⟩; have HI7 := Lib.hid (F.keep _ _ _ _ HI6.out (hb.block g (F.lt _ _ _ HI6.out))); have HO7 := Lib.hid (own_below HO6.out hb); have HB7 := Lib.hid (below_next HB6.out hb); have HS7 := Lib.hid (Nat.le_trans HS6.out hb.size); clear HI6 HO6 HB6 HS6 hb))
              go_roundw
              case rel => exact ⟨i + 1, A', by omega, by omega, by go_num, hA4', HAB'.out, ⟨_, _, rfl⟩, HI7.out, HO7.out, HS7.out, HB7.out⟩
              case measure => simp [intOf]; omega
            · have hr1 : ((r : Int) == 0) = false := by simp; omega
              go_wp2_with (first | (go_at_call 15; refine (F.write _ g A _ bs (tab_keep HT.out HB3.out (Nat.le_refl _)) HI3.out (has_below HU.out HB3.out) (fun hne => apart_of_has HU.out hgl hne) HAB.out HBB.out (by omega)).mono ?_; rintro e w4 ⟨rfl, hi4, ho4⟩; rw [← HA.out] at hi4; have HI4 := Lib.hid hi4; have HO4 := Lib.hid (own_only HO3.out ho4 lt2); have HB4 := Lib.hid (ho4.below HB3.out hgl HB3.out.size); have HS4 := Lib.hid (Nat.le_trans HS3.out ho4.size); clear hi4 ho4 HI3 HO3 HB3 HS3 cu; have cu := (World.cell?_of_block (HB4.out.block _ (World.block_lt_of_cell? w _ HCU.out))).trans HCU.out) | (at_builtin; refine append_has rfl (.tmp 36) (.tmp 40) 22 rfl w2.heap.size 5 i0 Tryd.underlying22 hi hz0 hz1 hz2 _ A bs rfl HO4.out _ rfl (has_below HU.out HB4.out) (by omega) HS4.out ?_; intro v5 w5 ho5 hg5 hn5; rw [← HA.out] at ho5; have hrow := fun k hk => (HO4.out.lt k hk).1; obtain ⟨ao5, cap5, rfl⟩ := own_slice ho5; have HI5 := Lib.hid (F.keep _ _ _ _ HI4.out (hg5.block g (F.lt _ _ _ HI4.out) (fun h => absurd (hrow _ h.symm) (by omega)))); have HO5 := Lib.hid ho5; have HB5 := Lib.hid (below_grown HB4.out hg5 HB4.out.size (fun k hk => Nat.le_trans (Nat.le_of_lt (Nat.lt_of_le_of_lt hgl lt2)) (hrow k hk))); have HS5 := Lib.hid (Nat.le_trans HS4.out hg5.size); clear ho5 hg5 hn5 hrow HI4 HO4 HB4 HS4 cu))
              go_roundw
              case rel => exact ⟨i + 1, A', by omega, by omega, by go_num, hA4', HAB'.out, ⟨_, _, rfl⟩, HI5.out, HO5.out, HS5.out, HB5.out⟩
              case measure => simp [intOf]; omega
      · have hd : decide ((i : Int) < 30) = false := decide_eq_false (by omega)
        have q0 : (i : Int) < (ls.length : Int) := by omega
        have hq := digestEq (sumF A)
        have hg1 := guard_rowV digestGuard (.tmp 55) (.tmp 57) .u8 32 (sumF A) (sumF A)
        have hg2 := guard_rowV digestGuard (.tmp 62) (.tmp 64) .u8 32 (sumF A) (sumF A)
        go_wp2_with (first | (go_at_call 16; refine (F.told _ g A (tab_keep HT.out HB3.out (Nat.le_refl _)) HI3.out HAB.out (by omega)).mono ?_; rintro e w4 ⟨rfl, hb⟩; have HI4 := Lib.hid (F.keep _ _ _ _ HI3.out (hb.block g (F.lt _ _ _ HI3.out))); have HO4 := Lib.hid (own_below HO3.out hb); have HB4 := Lib.hid (below_next HB3.out hb); have HS4 := Lib.hid (Nat.le_trans HS3.out hb.size); clear HI3 HO3 HB3 HS3 hb) | (go_at_call 10; refine (F.sum _ _ A (tab_keep HT.out HB4.out (Nat.le_refl _)) (has_of_own HO4.out) HAB.out (by omega)).mono ?_; rintro e w5 ⟨rfl, hb⟩; have HI5 := Lib.hid (F.keep _ _ _ _ HI4.out (hb.block g (F.lt _ _ _ HI4.out))); have HO5 := Lib.hid (own_below HO4.out hb); have HB5 := Lib.hid (below_next HB4.out hb); have HS5 := Lib.hid (Nat.le_trans HS4.out hb.size); clear HI4 HO4 HB4 HS4 hb) | (go_at_call 16; refine (F.told _ g A (tab_keep HT.out HB5.out (Nat.le_refl _)) HI5.out HAB.out (by omega)).mono ?_; rintro e w6 ⟨rfl, hb⟩; have HI6 := Lib.hid (F.keep _ _ _ _ HI5.out (hb.block g (F.lt _ _ _ HI5.out))); have HO6 := Lib.hid (own_below HO5.out hb); have HB6 := Lib.hid (below_next HB5.out hb); have HS6 := Lib.hid (Nat.le_trans HS5.out hb.size); clear HI5 HO5 HB5 HS5 hb) | (go_at_call 11; refine (refSum_V A HAB.out (by omega) _ _ (has_of_own HO6.out)).mono ?_; rintro e w7 ⟨rfl, hb⟩; have HI7 := Lib.hid (F.keep _ _ _ _ HI6.out (hb.block g (F.lt _ _ _ HI6.out))); have HO7 := Lib.hid (own_below HO6.out hb); have HB7 := Lib.hid (below_next HB6.out hb); have HS7 := Lib.hid (Nat.le_trans HS6.out hb.size); clear HI6 HO6 HB6 HS6 hb) | (go_at_call 17; refine (F.len _ g A HI7.out (by omega)).mono ?_; rintro e w8 ⟨rfl, hb⟩; have hbe := below_next HB7.out hb; clear hb))
        go_ret
        exact ⟨rfl, hbe⟩
    · have hd : decide ((i : Int) < (ls.length : Int)) = false := decide_eq_false (by omega)
      have hq := digestEq (sumF A)
      have hg1 := guard_rowV digestGuard (.tmp 55) (.tmp 57) .u8 32 (sumF A) (sumF A)
      have hg2 := guard_rowV digestGuard (.tmp 62) (.tmp 64) .u8 32 (sumF A) (sumF A)
      go_wp2_with (first | (go_at_call 16; refine (F.told _ g A (tab_keep HT.out HB3.out (Nat.le_refl _)) HI3.out HAB.out (by omega)).mono ?_; rintro e w4 ⟨rfl, hb⟩; have HI4 := Lib.hid (F.keep _ _ _ _ HI3.out (hb.block g (F.lt _ _ _ HI3.out))); have HO4 := Lib.hid (own_below HO3.out hb); have HB4 := Lib.hid (below_next HB3.out hb); have HS4 := Lib.hid (Nat.le_trans HS3.out hb.size); clear HI3 HO3 HB3 HS3 hb) | (go_at_call 10; refine (F.sum _ _ A (tab_keep HT.out HB4.out (Nat.le_refl _)) (has_of_own HO4.out) HAB.out (by omega)).mono ?_; rintro e w5 ⟨rfl, hb⟩; have HI5 := Lib.hid (F.keep _ _ _ _ HI4.out (hb.block g (F.lt _ _ _ HI4.out))); have HO5 := Lib.hid (own_below HO4.out hb); have HB5 := Lib.hid (below_next HB4.out hb); have HS5 := Lib.hid (Nat.le_trans HS4.out hb.size); clear HI4 HO4 HB4 HS4 hb) | (go_at_call 16; refine (F.told _ g A (tab_keep HT.out HB5.out (Nat.le_refl _)) HI5.out HAB.out (by omega)).mono ?_; rintro e w6 ⟨rfl, hb⟩; have HI6 := Lib.hid (F.keep _ _ _ _ HI5.out (hb.block g (F.lt _ _ _ HI5.out))); have HO6 := Lib.hid (own_below HO5.out hb); have HB6 := Lib.hid (below_next HB5.out hb); have HS6 := Lib.hid (Nat.le_trans HS5.out hb.size); clear HI5 HO5 HB5 HS5 hb) | (go_at_call 11; refine (refSum_V A HAB.out (by omega) _ _ (has_of_own HO6.out)).mono ?_; rintro e w7 ⟨rfl, hb⟩; have HI7 := Lib.hid (F.keep _ _ _ _ HI6.out (hb.block g (F.lt _ _ _ HI6.out))); have HO7 := Lib.hid (own_below HO6.out hb); have HB7 := Lib.hid (below_next HB6.out hb); have HS7 := Lib.hid (Nat.le_trans HS6.out hb.size); clear HI6 HO6 HB6 HS6 hb) | (go_at_call 17; refine (F.len _ g A HI7.out (by omega)).mono ?_; rintro e w8 ⟨rfl, hb⟩; have hbe := below_next HB7.out hb; clear hb))
      go_ret
      exact ⟨rfl, hbe⟩
end Go.Proofs.YtnfklikphkkpoaaDoor
