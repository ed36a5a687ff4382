/-
What hexa.Parse answers, walked over the landed code; a figure that is none is left by goto: what holds at the jump is laid ahead of the scope.
-/
import Derived.Test.YtikhmhgjaipnaaaDoorHexaCode
import Derived.Test.YtikhmhgjaipnaaaDoorRef04Parse
import Derived.WalkMore
import Derived.ScopeJumps
namespace Go.Proofs.YtikhmhgjaipnaaaDoor
open Go.RowKit
theorem or_fig : ∀ a, a < 16 → ∀ b, b < 16 → (16 * a ||| b) = 16 * a + b := by decide
theorem or_byte (a b : Nat) (ha : a < 16) (hb : b < 16) : bits .or .u8 ((16 * a : Nat) : Int) (b : Int) = ((16 * a + b : Nat) : Int) := by
  rw [u8_or_nat _ _ (by omega) (by omega), or_fig a ha b hb]
theorem worthI_some {c : UInt8} {n : Nat} (h : fig c = some n) : worthI c = n := by unfold worthI; rw [h]
theorem worthI_none {c : UInt8} (h : fig c = none) : worthI c = 16 := by unfold worthI; rw [h]
/-- What holds where a text that is no digest's is left. -/
def LeftParse (s : List UInt8) (w : World) : Act → World → Prop := fun a' w' => (∃ u0' u1' u3' u4' u5' u6' u7' u8' u9' u10' u11' u12' u13' u14' u15' u16' u17' u18' u19' u20' u21' u22' u23' u24' u25' u26' u27' u28' u29' u30' u31' u32' u33' u34' u35' u36' u37' u38' u39' : Value, a' = { tmps := #[u0', u1', .pointer (some ⟨w.heap.size, 0, none⟩), u3', u4', u5', u6', u7', u8', u9', u10', u11', u12', u13', u14', u15', u16', u17', u18', u19', u20', u21', u22', u23', u24', u25', u26', u27', u28', u29', u30', u31', u32', u33', u34', u35', u36', u37', u38', u39'], defers := [] }) ∧ isText s = false ∧ w'.heap[w.heap.size]? = some (.cells (row .u8 32 fun _ => 0#32) 23 (0, 0)) ∧ Below w.heap.size w w'
set_option maxHeartbeats 8000000 in
theorem parse_any (w : World) (s : List UInt8) : Calls Tryd.prog 10 #[.string (str s)] w fun e w' => e = .returned (.tuple #[rowV .u8 32 (parsed s), .int .i64 (parseErr s)]) ∧ Below w.heap.size w w' := by
  have H0 := alloc2_0 w (.cells (row .u8 32 fun _ => 0#32) 23 (0, 0)) (.cells (row .u8 32 fun _ => 0#32) 23 (0, 0))
  have H1 := alloc2_1 w (.cells (row .u8 32 fun _ => 0#32) 23 (0, 0)) (.cells (row .u8 32 fun _ => 0#32) 23 (0, 0))
  have B0 : Below w.heap.size w ((w.alloc (.cells (row .u8 32 fun _ => 0#32) 23 (0, 0))).alloc (.cells (row .u8 32 fun _ => 0#32) 23 (0, 0))) := ((Below.refl _ _).alloc (Nat.le_refl _) _).alloc (by simp) _
  have HH := Lib.hid (And.intro H0 (And.intro H1 B0))
  have hsz : (str s).size = s.length := str_size s
  clear H0 H1 B0
  go_enter Tryd.func10, Tryd.ntmps10
  go_wp2
  refine wp_scope_jumps 0 (LeftParse s w) (fun _ _ => 0) rfl ?_ ?_
  · by_cases h64 : s.length = 64
    · go_wp2
      go_loopw [5, 11] (fun _ c wr => ∃ k : Nat, k ≤ 32 ∧ c = .int .i64 k ∧ wr.heap[w.heap.size]? = some (.cells (row .u8 32 fun _ => 0#32) 23 (0, 0)) ∧ wr.heap[w.heap.size + 1]? = some (.cells (row .u8 32 (upTo (parseF s) k)) 23 (0, 0)) ∧ (∀ j, j < 2 * k → ∀ c, s[j]? = some c → (fig c).isSome = true) ∧ Below w.heap.size w wr) (fun _ c _ => 32 - (intOf c).toNat)
      case atStart => exact ⟨0, by omega, rfl, HH.out.1, by rw [upTo_zero]; exact HH.out.2.1, fun j hj => by omega, HH.out.2.2⟩
      case round =>
        clear HH
        obtain ⟨k, hk, rfl, hz, hd, hall, hb⟩ := hrel
        have HZ := Lib.hid hz
        have HD := Lib.hid hd
        have HA := Lib.hid hall
        have HB := Lib.hid hb
        by_cases h32 : k < 32
        · have q0 : (k : Int) < 32 := by omega
          obtain ⟨j0, hj0⟩ : ∃ j0 : Nat, j0 = 2 * k := ⟨_, rfl⟩
          obtain ⟨j1, hj1⟩ : ∃ j1 : Nat, j1 = j0 + 1 := ⟨_, rfl⟩
          have e0 : (2 : Int) * (k : Int) = (j0 : Int) := by omega
          have e1 : (j0 : Int) + 1 = (j1 : Int) := by omega
          have q1 : (j0 : Int) < 64 := by omega
          have ew0 : IntKind.i64.wrap (j0 : Int) = (j0 : Int) := by rw [IntKind.wrap_i64]; omega
          have ew1 : IntKind.i64.wrap (j1 : Int) = (j1 : Int) := by rw [IntKind.wrap_i64]; omega
          obtain ⟨c1, hc1⟩ : ∃ c, s[j0]? = some c := ⟨s[j0], List.getElem?_eq_getElem (by omega)⟩
          obtain ⟨c2, hc2⟩ : ∃ c, s[j1]? = some c := ⟨s[j1], List.getElem?_eq_getElem (by omega)⟩
          have i1 := fun w => index_str (P := Tryd.prog) w s .i64 j0 c1 hc1 Tryd.underlying9
          have i2 := fun w => index_str (P := Tryd.prog) w s .i64 j1 c2 hc2 Tryd.underlying9
          have HJ := Lib.hid (And.intro hj0 (And.intro hj1 (And.intro hc1 hc2)))
          clear hz hd hall hb hj0 hj1 hc1 hc2
          by_cases hf : (fig c1).isSome = true ∧ (fig c2).isSome = true
          · obtain ⟨a, ha⟩ := Option.isSome_iff_exists.1 hf.1
            obtain ⟨b, hb'⟩ := Option.isSome_iff_exists.1 hf.2
            have ha16 := (fig_some ha).1
            have hb16 := (fig_some hb').1
            have hF1 : ∀ w, Calls Tryd.prog 18 #[.int .u8 (c1.toNat : Int)] w fun e w' => e = .returned (.int .u8 (a : Int)) ∧ w = w' := fun w => by have := worth_any c1 w; rwa [worthI_some ha] at this
            have hF2 : ∀ w, Calls Tryd.prog 18 #[.int .u8 (c2.toNat : Int)] w fun e w' => e = .returned (.int .u8 (b : Int)) ∧ w = w' := fun w => by have := worth_any c2 w; rwa [worthI_some hb'] at this
            have HF1 := Lib.hid hF1
            have HF2 := Lib.hid hF2
            have HAB := Lib.hid (And.intro ha hb')
            have t1 : ((a : Int) == 16) = false := by rw [beq_eq_false_iff_ne]; omega
            have t2 : ((b : Int) == 16) = false := by rw [beq_eq_false_iff_ne]; omega
            obtain ⟨p, hp⟩ : ∃ p : Nat, p = 16 * a := ⟨_, rfl⟩
            obtain ⟨q, hq⟩ : ∃ q : Nat, q = p + b := ⟨_, rfl⟩
            have e2 : bits .or .u8 (p : Int) (b : Int) = (q : Int) := by rw [hq, hp]; exact or_byte a b ha16 hb16
            have e3 : (a : Int) * 16 = (p : Int) := by omega
            have e4 : IntKind.u8.wrap (p : Int) = (p : Int) := by rw [IntKind.wrap_u8]; omega
            have e5 : (p : Int) % 256 = (p : Int) := by omega
            have HQ := Lib.hid (show q = 16 * a + b by omega)
            clear ha hb' hf hF1 hF2 ha16 hb16 hp hq
            go_wp2
            go_quiet (first | (go_at_call 18; with_reducible refine quiet_same (HF1.out _)) | (go_at_call 18; with_reducible refine quiet_same (HF2.out _)))
            go_wp2_with (first
              | (refine store_cell rfl 5 (.tmp 36) (.tmp 35) rfl rfl .u8 (w.heap.size + 1) k _ _ _ HD.out rfl rfl (by rw [row_size]; omega) (by kernel_rfl) ?_; intro w3 hg3 hs3))
            have hs := hs3
            obtain ⟨hj0, hj1, hc1, hc2⟩ := HJ.out
            refine ⟨⟨k + 1, by omega, by go_num, (hs.block _ (by omega)).trans HZ.out, ?_, fun j hj c hc => ?_, (below_draws HB.out nq).trans ⟨hs.os, hs.tape, hs.output, Nat.le_of_eq hs.size.symm, fun j hj => hs.block j (by omega)⟩⟩, by simp [intOf]; omega⟩
            · have e : (parseF s k).toNat = q := by
                rw [parseF_toNat, List.getD_eq_getElem?_getD, List.getD_eq_getElem?_getD, ← hj0, ← hj1, hc1, hc2, Option.getD_some, Option.getD_some, HAB.out.1, HAB.out.2, Option.getD_some, Option.getD_some, HQ.out]
              rw [hg3, ← upTo_set, show (q : Int) = Go.Proofs.YtikhmhgjaipnaaaDoor.u32 (parseF s k) from by unfold Go.Proofs.YtikhmhgjaipnaaaDoor.u32; rw [e]]
            · rcases Nat.lt_or_ge j (2 * k) with h | h
              · exact HA.out j h c hc
              · rcases Nat.lt_or_ge j (2 * k + 1) with h' | h'
                · obtain rfl : j = j0 := by omega
                  rw [hc1] at hc; cases hc; rw [HAB.out.1]; rfl
                · obtain rfl : j = j1 := by omega
                  rw [hc2] at hc; cases hc; rw [HAB.out.2]; rfl
          · have hbad : isText s = false := by
              obtain ⟨hj0, hj1, hc1, hc2⟩ := HJ.out
              cases h : isText s with
              | false => rfl
              | true =>
                simp only [isText, Bool.and_eq_true, beq_iff_eq, List.all_eq_true] at h
                exact absurd ⟨h.2 c1 (List.mem_of_getElem? hc1), h.2 c2 (List.mem_of_getElem? hc2)⟩ hf
            have HBAD := Lib.hid hbad
            clear hbad
            cases h1 : fig c1 with
            | none =>
              obtain ⟨b, hb'⟩ : ∃ b : Nat, worthI c2 = b := ⟨_, rfl⟩
              have HF1 := Lib.hid (show ∀ w, Calls Tryd.prog 18 #[.int .u8 (c1.toNat : Int)] w fun e w' => e = .returned (.int .u8 16) ∧ w = w' from fun w => by have := worth_any c1 w; rwa [worthI_none h1] at this)
              have HF2 := Lib.hid (show ∀ w, Calls Tryd.prog 18 #[.int .u8 (c2.toNat : Int)] w fun e w' => e = .returned (.int .u8 (b : Int)) ∧ w = w' from fun w => by have := worth_any c2 w; rwa [hb'] at this)
              clear h1 hb' hf
              go_wp2
              go_quiet (first | (go_at_call 18; with_reducible refine quiet_same (HF1.out _)) | (go_at_call 18; with_reducible refine quiet_same (HF2.out _)))
              go_wp2
              go_step3
              exact ⟨rfl, ⟨_, _, _, _, _, _, _, _, _, _, _, _, _, _, _, _, _, _, _, _, _, _, _, _, _, _, _, _, _, _, _, _, _, _, _, _, _, _, _, rfl⟩, HBAD.out, HZ.out, below_draws HB.out nq⟩
            | some a =>
              cases h2 : fig c2 with
              | some b => exact absurd ⟨by rw [h1]; rfl, by rw [h2]; rfl⟩ hf
              | none =>
                have ha16 := (fig_some h1).1
                have t1 : ((a : Int) == 16) = false := by rw [beq_eq_false_iff_ne]; omega
                have HF1 := Lib.hid (show ∀ w, Calls Tryd.prog 18 #[.int .u8 (c1.toNat : Int)] w fun e w' => e = .returned (.int .u8 (a : Int)) ∧ w = w' from fun w => by have := worth_any c1 w; rwa [worthI_some h1] at this)
                have HF2 := Lib.hid (show ∀ w, Calls Tryd.prog 18 #[.int .u8 (c2.toNat : Int)] w fun e w' => e = .returned (.int .u8 16) ∧ w = w' from fun w => by have := worth_any c2 w; rwa [worthI_none h2] at this)
                clear h1 h2 hf ha16
                go_wp2
                go_quiet (first | (go_at_call 18; with_reducible refine quiet_same (HF1.out _)) | (go_at_call 18; with_reducible refine quiet_same (HF2.out _)))
                go_wp2
                go_step3
                exact ⟨rfl, ⟨_, _, _, _, _, _, _, _, _, _, _, _, _, _, _, _, _, _, _, _, _, _, _, _, _, _, _, _, _, _, _, _, _, _, _, _, _, _, _, rfl⟩, HBAD.out, HZ.out, below_draws HB.out nq⟩
        · obtain rfl : k = 32 := by omega
          have hgood : isText s = true := by
            simp only [isText, h64, beq_self_eq_true, Bool.true_and, List.all_eq_true]
            intro c hc
            obtain ⟨j, hj, rfl⟩ := List.mem_iff_getElem.1 hc
            exact HA.out j (by omega) _ (List.getElem?_eq_getElem hj)
          obtain ⟨hp1, hp2⟩ := parsed_good hgood
          have HP := Lib.hid (And.intro hp1 hp2)
          rw [upTo_full] at hd
          clear hgood hp1 hp2 hall HD HA HZ HB
          go_wp2_with (first | (refine wpList_load_row rfl 23 (.tmp 4) rfl (w.heap.size + 1) rfl 23 _ (0, 0) _ hd Tryd.underlying23 rfl (by kernel_rfl) ?_) | (refine wpList_store_row rfl 23 (.tmp 2) (.tmp 38) rfl w.heap.size _ rfl rfl 23 _ hz (by kernel_rfl) ((row_size _ _ _).trans (row_size _ _ _).symm) (row_one _ _ _) ?_))
          simp only [Exit.jump]
          exact bodyPost_ret (results_cell2 Tryd.results10 _ _ w.heap.size 23 _ (0, 0) _ _ rfl rfl (setRow_heap _ _ _ _ _ _ hz) Tryd.underlying23 rfl (by kernel_rfl)) rfl ⟨by rw [HP.out.1, HP.out.2]; try rfl, below_setRow hb (by omega) _⟩
    · have hbad : isText s = false := by
        cases h : isText s with
        | false => rfl
        | true => simp only [isText, Bool.and_eq_true, beq_iff_eq] at h; exact absurd h.1 h64
      have hne : ((s.length : Int) == 64) = false := by simp; omega
      clear h64
      go_wp2
      go_step3
      exact ⟨rfl, ⟨_, _, _, _, _, _, _, _, _, _, _, _, _, _, _, _, _, _, _, _, _, _, _, _, _, _, _, _, _, _, _, _, _, _, _, _, _, _, _, rfl⟩, hbad, HH.out.1, HH.out.2.2⟩
  · clear HH hsz
    rintro a' w1 ⟨⟨u0', u1', u3', u4', u5', u6', u7', u8', u9', u10', u11', u12', u13', u14', u15', u16', u17', u18', u19', u20', u21', u22', u23', u24', u25', u26', u27', u28', u29', u30', u31', u32', u33', u34', u35', u36', u37', u38', u39', rfl⟩, hbad, hz, hb⟩
    obtain ⟨hp1, hp2⟩ := parsed_bad hbad
    have HP := Lib.hid (And.intro hp1 hp2)
    have HB := Lib.hid hb
    clear hbad hp1 hp2 hb
    go_wp2_with (first | (refine build_as rfl 23 #[] rfl _ _ built_zero (by simp) ?_) | (refine wpList_store_row rfl 23 (.tmp 2) (.tmp 39) rfl w.heap.size _ rfl rfl 23 _ hz (by kernel_rfl) rfl (row_one _ _ _) ?_))
    simp only [Exit.jump]
    exact bodyPost_ret (results_cell2 Tryd.results10 _ _ w.heap.size 23 _ (0, 0) _ _ rfl rfl (setRow_heap _ _ _ _ _ _ hz) Tryd.underlying23 rfl (by kernel_rfl)) rfl ⟨by rw [HP.out.1, HP.out.2]; try rfl, below_setRow HB.out (by omega) _⟩
end Go.Proofs.YtikhmhgjaipnaaaDoor
