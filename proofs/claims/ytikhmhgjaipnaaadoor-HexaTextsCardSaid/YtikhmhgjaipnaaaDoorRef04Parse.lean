/-
What the document's own Parse returns: the digest of which the text is the one, or that there is none.
-/
import Derived.Test.YtikhmhgjaipnaaaDoorRef04
namespace Go.Proofs.YtikhmhgjaipnaaaDoor
open Go.RowKit
theorem built_zero : Tryd.prog.built 23 [] = some (row .u8 32 fun _ => 0#32) := by kernel_rfl
set_option maxHeartbeats 4000000 in
theorem refParse_any (s : List UInt8) (w : World) : Calls Tryd.prog 11 #[.string (str s)] w fun e w' => e = .returned (.tuple #[rowV .u8 32 (parsed s), .int .i64 (parseErr s)]) ∧ Below w.heap.size w w' := by
  have H0 := alloc2_0 w (.cells (row .u8 32 fun _ => 0#32) 23 (0, 0)) (.cells (row .u8 32 fun _ => 0#32) 23 (0, 0))
  have H1 := alloc2_1 w (.cells (row .u8 32 fun _ => 0#32) 23 (0, 0)) (.cells (row .u8 32 fun _ => 0#32) 23 (0, 0))
  have B0 : Below w.heap.size w ((w.alloc (.cells (row .u8 32 fun _ => 0#32) 23 (0, 0))).alloc (.cells (row .u8 32 fun _ => 0#32) 23 (0, 0))) := ((Below.refl _ _).alloc (Nat.le_refl _) _).alloc (by simp) _
  have HH := Lib.hid (And.intro H0 (And.intro H1 B0))
  have hsz : (str s).size = s.length := str_size s
  clear H0 H1 B0
  by_cases h64 : s.length = 64
  · go_enter Tryd.func11, Tryd.ntmps11
    go_wp2
    go_loopw [5, 6, 7] (fun c _ _ wr => ∃ k : Nat, k ≤ 32 ∧ c = .int .i64 k ∧ wr.heap[w.heap.size]? = some (.cells (row .u8 32 fun _ => 0#32) 23 (0, 0)) ∧ wr.heap[w.heap.size + 1]? = some (.cells (row .u8 32 (upTo (parseF s) k)) 23 (0, 0)) ∧ (∀ j, j < 2 * k → ∀ c, s[j]? = some c → (fig c).isSome = true) ∧ Below w.heap.size w wr) (fun c _ _ _ => 32 - (intOf c).toNat)
    case atStart => exact ⟨0, by omega, rfl, HH.out.1, by rw [upTo_zero]; exact HH.out.2.1, fun j hj => by omega, HH.out.2.2⟩
    case round =>
      clear HH
      obtain ⟨k, hk, rfl, hz, hd, hall, hb⟩ := hrel
      have HZ := Lib.hid hz
      have HD := Lib.hid hd
      have HA := Lib.hid hall
      have HB := Lib.hid hb
      by_cases h32 : k < 32
      · have q0 : (k : Int) < 32 := by omega
        obtain ⟨j0, hj0⟩ : ∃ j0 : Nat, j0 = 2 * k := ⟨_, rfl⟩
        obtain ⟨j1, hj1⟩ : ∃ j1 : Nat, j1 = j0 + 1 := ⟨_, rfl⟩
        have e0 : (2 : Int) * (k : Int) = (j0 : Int) := by omega
        have e1 : (j0 : Int) + 1 = (j1 : Int) := by omega
        have q1 : (j0 : Int) < 64 := by omega
        obtain ⟨c1, hc1⟩ : ∃ c, s[j0]? = some c := ⟨s[j0], List.getElem?_eq_getElem (by omega)⟩
        obtain ⟨c2, hc2⟩ : ∃ c, s[j1]? = some c := ⟨s[j1], List.getElem?_eq_getElem (by omega)⟩
        have i1 := fun w => index_str (P := Tryd.prog) w s .i64 j0 c1 hc1 Tryd.underlying9
        have i2 := fun w => index_str (P := Tryd.prog) w s .i64 j1 c2 hc2 Tryd.underlying9
        have HJ := Lib.hid (And.intro hj0 (And.intro hj1 (And.intro hc1 hc2)))
        clear hz hd hall hb hj0 hj1 hc1 hc2
        by_cases hf : (fig c1).isSome = true ∧ (fig c2).isSome = true
        · obtain ⟨a, ha⟩ := Option.isSome_iff_exists.1 hf.1
          obtain ⟨b, hb'⟩ := Option.isSome_iff_exists.1 hf.2
          have hF1 := Lib.hid (show figI c1 = (a : Int) by unfold figI; rw [ha])
          have hF2 := Lib.hid (show figI c2 = (b : Int) by unfold figI; rw [hb'])
          have ha16 : (a : Int) < 16 := by have := (fig_some ha).1; omega
          have hb16 : (b : Int) < 16 := by have := (fig_some hb').1; omega
          have HAB := Lib.hid (And.intro ha hb')
          clear ha hb' hf
          go_wp2_with (first
            | (go_at_call 19; with_reducible refine (refValue_any c1 _).mono ?_; rintro e w' ⟨rfl, rfl⟩; rw [hF1.out])
            | (go_at_call 19; with_reducible refine (refValue_any c2 _).mono ?_; rintro e w' ⟨rfl, rfl⟩; rw [hF2.out])
            | (refine store_cell rfl 5 (.tmp 40) (.tmp 39) rfl rfl .u8 (w.heap.size + 1) k _ _ _ HD.out rfl rfl (by rw [row_size]; omega) (by kernel_rfl) ?_; intro w3 hg3 hs3))
          have hs := hs3
          obtain ⟨hj0, hj1, hc1, hc2⟩ := HJ.out
          refine ⟨⟨k + 1, by omega, by go_num, (hs.block _ (by omega)).trans HZ.out, ?_, fun j hj c hc => ?_, HB.out.trans ⟨hs.os, hs.tape, hs.output, Nat.le_of_eq hs.size.symm, fun j hj => hs.block j (by omega)⟩⟩, by simp [intOf]; omega⟩
          · have e : (parseF s k).toNat = 16 * a + b := by
              rw [parseF_toNat, List.getD_eq_getElem?_getD, List.getD_eq_getElem?_getD, ← hj0, ← hj1, hc1, hc2, Option.getD_some, Option.getD_some, HAB.out.1, HAB.out.2, Option.getD_some, Option.getD_some]
            rw [hg3, ← upTo_set, show (16 : Int) * (a : Int) + (b : Int) = Go.Proofs.YtikhmhgjaipnaaaDoor.u32 (parseF s k) from by unfold Go.Proofs.YtikhmhgjaipnaaaDoor.u32; rw [e]; omega]
          · rcases Nat.lt_or_ge j (2 * k) with h | h
            · exact HA.out j h c hc
            · rcases Nat.lt_or_ge j (2 * k + 1) with h' | h'
              · obtain rfl : j = j0 := by omega
                rw [hc1] at hc; cases hc; rw [HAB.out.1]; rfl
              · obtain rfl : j = j1 := by omega
                rw [hc2] at hc; cases hc; rw [HAB.out.2]; rfl
        · have hbad : isText s = false := by
            obtain ⟨hj0, hj1, hc1, hc2⟩ := HJ.out
            cases h : isText s with
            | false => rfl
            | true =>
              simp only [isText, Bool.and_eq_true, beq_iff_eq, List.all_eq_true] at h
              exact absurd ⟨h.2 c1 (List.mem_of_getElem? hc1), h.2 c2 (List.mem_of_getElem? hc2)⟩ hf
          obtain ⟨hp1, hp2⟩ := parsed_bad hbad
          have HP := Lib.hid (And.intro hp1 hp2)
          clear hbad hp1 hp2
          cases h1 : fig c1 with
          | none =>
            have hF1 := Lib.hid (show figI c1 = -1 by unfold figI; rw [h1])
            clear h1 hf
            cases h2 : fig c2 with
            | none =>
              have hF2 := Lib.hid (show figI c2 = -1 by unfold figI; rw [h2])
              clear h2
              go_wp2_with (first
                | (go_at_call 19; with_reducible refine (refValue_any c1 _).mono ?_; rintro e w' ⟨rfl, rfl⟩; rw [hF1.out])
                | (go_at_call 19; with_reducible refine (refValue_any c2 _).mono ?_; rintro e w' ⟨rfl, rfl⟩; rw [hF2.out])
                | (refine build_as rfl 23 #[] rfl _ _ built_zero (by simp) ?_)
                | (refine wpList_store_row rfl 23 (.tmp 2) (.tmp 33) rfl w.heap.size _ rfl rfl 23 _ HZ.out (by kernel_rfl) rfl (row_one _ _ _) ?_))
              rw [HP.out.1, HP.out.2]
              exact bodyPost_ret (results_cell2 Tryd.results11 _ _ w.heap.size 23 _ (0, 0) _ _ rfl rfl (setRow_heap _ _ _ _ _ _ HZ.out) Tryd.underlying23 rfl (by kernel_rfl)) rfl ⟨rfl, below_setRow HB.out (by omega) _⟩
            | some b =>
              have hF2 := Lib.hid (show figI c2 = (b : Int) by unfold figI; rw [h2])
              have hb16 : (b : Int) < 16 := by have := (fig_some h2).1; omega
              clear h2
              go_wp2_with (first
                | (go_at_call 19; with_reducible refine (refValue_any c1 _).mono ?_; rintro e w' ⟨rfl, rfl⟩; rw [hF1.out])
                | (go_at_call 19; with_reducible refine (refValue_any c2 _).mono ?_; rintro e w' ⟨rfl, rfl⟩; rw [hF2.out])
                | (refine build_as rfl 23 #[] rfl _ _ built_zero (by simp) ?_)
                | (refine wpList_store_row rfl 23 (.tmp 2) (.tmp 33) rfl w.heap.size _ rfl rfl 23 _ HZ.out (by kernel_rfl) rfl (row_one _ _ _) ?_))
              rw [HP.out.1, HP.out.2]
              exact bodyPost_ret (results_cell2 Tryd.results11 _ _ w.heap.size 23 _ (0, 0) _ _ rfl rfl (setRow_heap _ _ _ _ _ _ HZ.out) Tryd.underlying23 rfl (by kernel_rfl)) rfl ⟨rfl, below_setRow HB.out (by omega) _⟩
          | some a =>
            have hF1 := Lib.hid (show figI c1 = (a : Int) by unfold figI; rw [h1])
            have ha16 : (a : Int) < 16 := by have := (fig_some h1).1; omega
            cases h2 : fig c2 with
            | none =>
              have hF2 := Lib.hid (show figI c2 = -1 by unfold figI; rw [h2])
              clear h1 h2 hf
              go_wp2_with (first
                | (go_at_call 19; with_reducible refine (refValue_any c1 _).mono ?_; rintro e w' ⟨rfl, rfl⟩; rw [hF1.out])
                | (go_at_call 19; with_reducible refine (refValue_any c2 _).mono ?_; rintro e w' ⟨rfl, rfl⟩; rw [hF2.out])
                | (refine build_as rfl 23 #[] rfl _ _ built_zero (by simp) ?_)
                | (refine wpList_store_row rfl 23 (.tmp 2) (.tmp 33) rfl w.heap.size _ rfl rfl 23 _ HZ.out (by kernel_rfl) rfl (row_one _ _ _) ?_))
              rw [HP.out.1, HP.out.2]
              exact bodyPost_ret (results_cell2 Tryd.results11 _ _ w.heap.size 23 _ (0, 0) _ _ rfl rfl (setRow_heap _ _ _ _ _ _ HZ.out) Tryd.underlying23 rfl (by kernel_rfl)) rfl ⟨rfl, below_setRow HB.out (by omega) _⟩
            | some b => exact absurd ⟨by rw [h1]; rfl, by rw [h2]; rfl⟩ hf
      · obtain rfl : k = 32 := by omega
        have hgood : isText s = true := by
          simp only [isText, h64, beq_self_eq_true, Bool.true_and, List.all_eq_true]
          intro c hc
          obtain ⟨j, hj, rfl⟩ := List.mem_iff_getElem.1 hc
          exact HA.out j (by omega) _ (List.getElem?_eq_getElem hj)
        obtain ⟨hp1, hp2⟩ := parsed_good hgood
        have HP := Lib.hid (And.intro hp1 hp2)
        rw [upTo_full] at hd
        clear hgood hp1 hp2 hall HD HA HZ HB
        go_wp2_with (first | (refine wpList_load_row rfl 23 (.tmp 4) rfl (w.heap.size + 1) rfl 23 _ (0, 0) _ hd Tryd.underlying23 rfl (by kernel_rfl) ?_) | (refine wpList_store_row rfl 23 (.tmp 2) (.tmp 41) rfl w.heap.size _ rfl rfl 23 _ hz (by kernel_rfl) ((row_size _ _ _).trans (row_size _ _ _).symm) (row_one _ _ _) ?_))
        rw [HP.out.1, HP.out.2]
        exact bodyPost_ret (results_cell2 Tryd.results11 _ _ w.heap.size 23 _ (0, 0) _ _ rfl rfl (setRow_heap _ _ _ _ _ _ hz) Tryd.underlying23 rfl (by kernel_rfl)) rfl ⟨rfl, below_setRow hb (by omega) _⟩
  · have hbad : isText s = false := by
      cases h : isText s with
      | false => rfl
      | true => simp only [isText, Bool.and_eq_true, beq_iff_eq] at h; exact absurd h.1 h64
    obtain ⟨hp1, hp2⟩ := parsed_bad hbad
    have HP := Lib.hid (And.intro hp1 hp2)
    have hne : ((s.length : Int) == 64) = false := by simp; omega
    clear hbad hp1 hp2 h64
    go_enter Tryd.func11, Tryd.ntmps11
    go_wp2_with (first | (refine wpList_load_row rfl 23 (.tmp 4) rfl (w.heap.size + 1) rfl 23 _ (0, 0) _ HH.out.2.1 Tryd.underlying23 rfl (by kernel_rfl) ?_) | (refine wpList_store_row rfl 23 (.tmp 2) (.tmp 11) rfl w.heap.size _ rfl rfl 23 _ HH.out.1 (by kernel_rfl) rfl (row_one _ _ _) ?_))
    rw [HP.out.1, HP.out.2]
    exact bodyPost_ret (results_cell2 Tryd.results11 _ _ w.heap.size 23 _ (0, 0) _ _ rfl rfl (setRow_heap _ _ _ _ _ _ HH.out.1) Tryd.underlying23 rfl (by kernel_rfl)) rfl ⟨rfl, below_setRow HH.out.2.2 (by omega) _⟩
end Go.Proofs.YtikhmhgjaipnaaaDoor
