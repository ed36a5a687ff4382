/-
A text's dot, as the document's own answer has it.
-/
import Derived.Test.YtfechljjkblkhaaDoorRef09Text
namespace Go.Proofs.YtfechljjkblkhaaDoor
open Go.RowKit
theorem slice_upto {P : Program} (w : World) (t : TypeId) (s : List UInt8) (k : Nat) (hk : k ≤ s.length) (ht : P.underlying t = some .string) :
    (Instr.slice t (.string (str s)) none (some (.int .i64 (k : Int))) none).run P w = .ok (.string (str (s.take k))) w := by
  rw [run_slice_string_h w t (str s) ht .i64 k (by omega) (by rw [str_size]; omega)]
  congr 2
  unfold str; rw [ByteArray.extract_mk]; simp
theorem slice_rest {P : Program} (w : World) (t : TypeId) (s : List UInt8) (f : Nat) (hf : f ≤ s.length) (ht : P.underlying t = some .string) :
    (Instr.slice t (.string (str s)) (some (.int .i64 (f : Int))) none none).run P w = .ok (.string (str (s.drop f))) w := by
  have h := run_slice_string_l w t (str s) ht .i64 f (by omega) (by rw [str_size]; omega)
  have e : (str s).extract (f : Int).toNat (str s).size = str (s.drop f) := by
    rw [str_size]; unfold str; rw [ByteArray.extract_mk, List.take_of_length_le (by simp)]; simp
  rw [e] at h; exact h
/-- The first colon's place. -/
theorem ahead_at {s : List UInt8} {k : Nat} (hk : k < s.length) (h58 : s.getD k 0 = 58) (hno : ∀ j, j < k → s.getD j 0 ≠ 58) : aheadD s = s.take k ∧ behindD s = s.drop (k + 1) ∧ s.contains 58 = true := by
  have e : s = s.take k ++ 58 :: s.drop (k + 1) := by
    have h1 : s[k] = 58 := by rw [← h58]; simp [hk]
    rw [← h1, ← List.drop_eq_getElem_cons hk, List.take_append_drop]
  have hn : (58 : UInt8) ∉ s.take k := fun hm => by
    obtain ⟨j, hj, he⟩ := List.mem_iff_getElem.1 hm
    rw [List.length_take] at hj
    rw [List.getElem_take] at he
    exact hno j (by omega) (by rw [List.getD_eq_getElem?_getD, List.getElem?_eq_getElem (by omega), he]; rfl)
  obtain ⟨a1, a2⟩ := ahead_of (s.take k) (s.drop (k + 1)) hn
  rw [← e] at a1 a2
  exact ⟨a1, a2, by rw [List.contains_iff_mem, e]; simp⟩
theorem no_colon {s : List UInt8} (hno : ∀ j, j < s.length → s.getD j 0 ≠ 58) : isDot s = false := by
  have : s.contains 58 = false := by
    rw [Bool.eq_false_iff, ne_eq, List.contains_iff_mem]
    intro hm
    obtain ⟨j, hj, he⟩ := List.mem_iff_getElem.1 hm
    exact hno j hj (by rw [List.getD_eq_getElem?_getD, List.getElem?_eq_getElem hj, he]; rfl)
  rw [isDot, this]; rfl
theorem row_kept {g : Nat} {A B : World} {o : Obj} (h : A.heap[g]? = some o) (hb : Below A.heap.size A B) : B.heap[g]? = some o := (hb.block g (Array.getElem?_eq_some_iff.1 h).1).trans h
theorem dot_one (x y : Int) : (#[Value.int .i64 x, Value.int .i64 y] : Array Value).all (·.oneCell') = true := by simp [Value.oneCell']
theorem dot_set (W : World) (g : Nat) (r q x y : Int) (t : TypeId) (h : W.heap[g]? = some (.cells #[.int .i64 r, .int .i64 q] t (0, 0))) : (W.setRow g #[.int .i64 x, .int .i64 y]).heap[g]? = some (.cells #[.int .i64 x, .int .i64 y] t (0, 0)) := setRow_heap W g _ _ t _ h
set_option maxHeartbeats 8000000 in
theorem refParse_any9 (s : List UInt8) (hs : s.length < 4611686018427387904) (w : World) : Calls Tryd.prog 17 #[.string (str s)] w fun e w' => e = .returned (.tuple #[.agg #[.int .i64 (parR s), .int .i64 (parQ s)], .int .i64 (parErr s)]) ∧ Below w.heap.size w w' := by
  obtain ⟨n, hn⟩ : ∃ n, n = s.length := ⟨_, rfl⟩
  have HN := Lib.hid hn
  have hsz : (str s).size = n := by rw [str_size, hn]
  have HS := Lib.hid hs
  have B0 := Lib.hid ((Below.refl w.heap.size w).alloc (Nat.le_refl _) (.cells #[.int .i64 0, .int .i64 0] 23 (0, 0)))
  have H0 := Lib.hid (heap_last w (.cells #[.int .i64 0, .int .i64 0] 23 (0, 0)))
  have HZ := Lib.hid (show (w.alloc (.cells #[.int .i64 0, .int .i64 0] 23 (0, 0))).heap.size = w.heap.size + 1 by simp)
  rw [← hn] at hs
  clear hn
  go_enter Tryd.func17, Tryd.ntmps17
  go_upto_region 1 with fail
  generalize w.alloc (.cells #[.int .i64 0, .int .i64 0] 23 (0, 0)) = W0 at *
  go_wp2
  go_loopw [4] (fun i wr => W0 = wr ∧ ∃ k : Nat, k ≤ n ∧ i = .int .i64 k ∧ ∀ j, j < k → s.getD j 0 ≠ 58) (fun i _ => n - (intOf i).toNat)
  case atStart => exact ⟨rfl, 0, by omega, rfl, fun j hj => by omega⟩
  case round =>
    obtain ⟨rfl, k, hk, rfl, hall⟩ := hrel
    have HA := Lib.hid hall
    clear hall
    by_cases hlt : k < n
    · obtain ⟨c, hc⟩ : ∃ c, s[k]? = some c := ⟨s[k]'(by have := HN.out; omega), List.getElem?_eq_getElem _⟩
      have i1 := fun w => index_str (P := Tryd.prog) w s .i64 k c hc Tryd.underlying9
      obtain ⟨x, hx⟩ : ∃ x, c.toNat = x := ⟨_, rfl⟩
      rw [hx] at i1
      have HX := Lib.hid (And.intro (show s.getD k 0 = c by rw [List.getD_eq_getElem?_getD, hc]; rfl) hx)
      have q1 : (k : Int) < (n : Int) := by omega
      by_cases h58 : x = 58
      · subst h58
        have hcc : s.getD k 0 = 58 := by rw [HX.out.1]; exact UInt8.toNat_inj.1 HX.out.2
        obtain ⟨a1, a2, a3⟩ := ahead_at (by rw [← HN.out]; exact hlt) hcc HA.out
        have q2 : ((k : Int) == (n : Int)) = false := by rw [beq_eq_false_iff_ne]; omega
        have s1 : ∀ w, (Instr.slice 9 (.string (str s)) none (some (.int .i64 (k : Int))) none).run Tryd.prog w = .ok (.string (str (aheadD s))) w := fun w => by rw [a1]; exact slice_upto w 9 s k (by rw [← HN.out]; exact hk) Tryd.underlying9
        have s2 : ∀ w, (Instr.slice 9 (.string (str s)) (some (.int .i64 ((k + 1 : Nat) : Int))) none none).run Tryd.prog w = .ok (.string (str (behindD s))) w := fun w => by rw [a2]; exact slice_rest w 9 s (k + 1) (by rw [← HN.out]; exact hlt) Tryd.underlying9
        have hk1 : wrap64 ((k : Int) + 1) = ((k + 1 : Nat) : Int) := by rw [wrap64]; omega
        have RA := Lib.hid (fun w => refRead_any (aheadD s) 31 (by rw [a1, List.length_take, ← HN.out]; omega) w)
        have RB := Lib.hid (fun w => refRead_any (behindD s) 1099511627776 (by rw [a2, List.length_drop, ← HN.out]; omega) w)
        have HD := Lib.hid (show isDot s = (readErr (aheadD s) 31 == 0 && (readErr (behindD s) 1099511627776 == 0 && mayD (readN (aheadD s) 31) (readN (behindD s) 1099511627776))) by rw [isDot, a3, Bool.true_and])
        have HP := Lib.hid (show parErr s = (if isDot s then 0 else 2) ∧ parR s = (if isDot s then readN (aheadD s) 31 else 0) ∧ parQ s = (if isDot s then readN (behindD s) 1099511627776 else 0) from ⟨rfl, rfl, rfl⟩)
        obtain ⟨X, hX⟩ : ∃ X, aheadD s = X := ⟨_, rfl⟩
        obtain ⟨Y, hY⟩ : ∃ Y, behindD s = Y := ⟨_, rfl⟩
        rw [hX] at s1 RA HD HP
        rw [hY] at s2 RB HD HP
        obtain ⟨r, hr⟩ : ∃ r, readN X 31 = r := ⟨_, rfl⟩
        obtain ⟨q, hq⟩ : ∃ q, readN Y 1099511627776 = q := ⟨_, rfl⟩
        obtain ⟨e1, he1⟩ : ∃ e, readErr X 31 = e := ⟨_, rfl⟩
        obtain ⟨e2, he2⟩ : ∃ e, readErr Y 1099511627776 = e := ⟨_, rfl⟩
        rw [hr, he1] at RA
        rw [hq, he2] at RB
        rw [hr, hq, he1, he2] at HD
        rw [hr, hq] at HP
        obtain ⟨k1, hk1'⟩ : ∃ k1, k1 = k + 1 := ⟨_, rfl⟩
        rw [← hk1'] at s2 hk1
        have M1 := Lib.hid (fun w => refMay_any9 r q w)
        clear hX hY hr hq he1 he2 a1 a2 a3 hcc hlt hk hk1' hc hx hs
        go_upto_region 7 with (first | (go_at_call 26; refine (RA.out _).mono ?_; rintro e w3 ⟨rfl, hb⟩; have G3 := Lib.hid (row_kept H0.out hb); have B3 := Lib.hid (B0.out.trans (hb.mono B0.out.size)); clear hb))
        go_upto_region 8 with (first | (go_at_call 26; refine (RB.out _).mono ?_; rintro e w4 ⟨rfl, hb⟩; have G4 := Lib.hid (row_kept G3.out hb); have B4 := Lib.hid (below_next B3.out hb); clear hb))
        go_upto_region 9 with (first | (refine build_on (by rfl) 23 #[(0, .tmp 42), (1, .tmp 43)] rfl _ _ (dot_built _ _) (by simp [Act.eval]) ?_))
        have H5 := Lib.hid (heap_last w4 (.cells #[.int .i64 r, .int .i64 q] 23 (0, 0)))
        have G5 := Lib.hid (row_kept G4.out ((Below.refl w4.heap.size w4).alloc (Nat.le_refl _) (.cells #[.int .i64 r, .int .i64 q] 23 (0, 0))))
        have B5 := Lib.hid (B4.out.alloc B4.out.size (.cells #[.int .i64 r, .int .i64 q] 23 (0, 0)))
        generalize w4.alloc (.cells #[.int .i64 r, .int .i64 q] 23 (0, 0)) = W5 at *
        by_cases z1 : e1 = 0
        · subst z1
          by_cases z2 : e2 = 0
          · subst z2
            cases hm : mayD r q with
            | true =>
              have hd : isDot s = true := by rw [HD.out, hm]; rfl
              have HR := Lib.hid (show parR s = r ∧ parQ s = q ∧ parErr s = 0 by have h := HP.out; rw [hd] at h; exact ⟨h.2.1, h.2.2, h.1⟩)
              rw [hm] at M1
              clear hd hm
              go_wp2_with (first
                | (refine load_row_on (by rfl) 23 (.tmp 9) rfl w4.heap.size rfl 23 _ (0, 0) _ H5.out Tryd.underlying23 rfl (by kernel_rfl) ?_)
                | (go_at_call 15; refine (M1.out _).mono ?_; rintro e w6 ⟨rfl, hb⟩; have G6 := Lib.hid (row_kept G5.out hb); have H6 := Lib.hid (row_kept H5.out hb); have B6 := Lib.hid (below_next B5.out hb); clear hb)
                | (refine load_row_on (by rfl) 23 (.tmp 9) rfl w4.heap.size rfl 23 _ (0, 0) _ H6.out Tryd.underlying23 rfl (by kernel_rfl) ?_)
                | (refine wpList_store_row rfl 23 (.tmp 2) (.tmp 57) rfl w.heap.size _ rfl rfl 23 _ G6.out (by kernel_rfl) rfl (dot_one _ _) ?_))
              exact bodyPost_ret (results_cell2 Tryd.results17 _ _ w.heap.size 23 _ (0, 0) _ _ rfl rfl (setRow_heap _ _ _ _ _ _ G6.out) Tryd.underlying23 rfl (by kernel_rfl)) rfl ⟨by rw [HR.out.1, HR.out.2.1, HR.out.2.2]; rfl, below_setRow B6.out (Nat.le_refl _) _⟩
            | false =>
              have hd : isDot s = false := by rw [HD.out, hm]; rfl
              have HR := Lib.hid (show parR s = 0 ∧ parQ s = 0 ∧ parErr s = 2 by have h := HP.out; rw [hd] at h; exact ⟨h.2.1, h.2.2, h.1⟩)
              rw [hm] at M1
              clear hd hm
              go_wp2_with (first
                | (refine load_row_on (by rfl) 23 (.tmp 9) rfl w4.heap.size rfl 23 _ (0, 0) _ H5.out Tryd.underlying23 rfl (by kernel_rfl) ?_)
                | (go_at_call 15; refine (M1.out _).mono ?_; rintro e w6 ⟨rfl, hb⟩; have G6 := Lib.hid (row_kept G5.out hb); have H6 := Lib.hid (row_kept H5.out hb); have B6 := Lib.hid (below_next B5.out hb); clear hb)
                | (refine build_on (by rfl) 23 #[] rfl _ _ dot_built0 (by simp [Act.eval]) ?_)
                | (refine wpList_store_row rfl 23 (.tmp 2) (.tmp 56) rfl w.heap.size _ rfl rfl 23 _ G6.out (by kernel_rfl) rfl (dot_one _ _) ?_))
              exact bodyPost_ret (results_cell2 Tryd.results17 _ _ w.heap.size 23 _ (0, 0) _ _ rfl rfl (setRow_heap _ _ _ _ _ _ G6.out) Tryd.underlying23 rfl (by kernel_rfl)) rfl ⟨by rw [HR.out.1, HR.out.2.1, HR.out.2.2]; rfl, below_setRow B6.out (Nat.le_refl _) _⟩
          · have t2 : (e2 != 0) = true := bne_iff_ne.2 z2
            have hd : isDot s = false := by rw [HD.out, show (e2 == 0) = false from beq_eq_false_iff_ne.2 z2]; simp
            have HR := Lib.hid (show parR s = 0 ∧ parQ s = 0 ∧ parErr s = 2 by have h := HP.out; rw [hd] at h; exact ⟨h.2.1, h.2.2, h.1⟩)
            clear z2 hd
            go_wp2_with (first
              | (refine build_on (by rfl) 23 #[] rfl _ _ dot_built0 (by simp [Act.eval]) ?_)
              | (refine wpList_store_row rfl 23 (.tmp 2) (.tmp 56) rfl w.heap.size _ rfl rfl 23 _ G5.out (by kernel_rfl) rfl (dot_one _ _) ?_))
            exact bodyPost_ret (results_cell2 Tryd.results17 _ _ w.heap.size 23 _ (0, 0) _ _ rfl rfl (setRow_heap _ _ _ _ _ _ G5.out) Tryd.underlying23 rfl (by kernel_rfl)) rfl ⟨by rw [HR.out.1, HR.out.2.1, HR.out.2.2]; rfl, below_setRow B5.out (Nat.le_refl _) _⟩
        · have t1 : (e1 != 0) = true := bne_iff_ne.2 z1
          have hd : isDot s = false := by rw [HD.out, show (e1 == 0) = false from beq_eq_false_iff_ne.2 z1]; simp
          have HR := Lib.hid (show parR s = 0 ∧ parQ s = 0 ∧ parErr s = 2 by have h := HP.out; rw [hd] at h; exact ⟨h.2.1, h.2.2, h.1⟩)
          clear z1 hd
          go_wp2_with (first
            | (refine build_on (by rfl) 23 #[] rfl _ _ dot_built0 (by simp [Act.eval]) ?_)
            | (refine wpList_store_row rfl 23 (.tmp 2) (.tmp 56) rfl w.heap.size _ rfl rfl 23 _ G5.out (by kernel_rfl) rfl (dot_one _ _) ?_))
          exact bodyPost_ret (results_cell2 Tryd.results17 _ _ w.heap.size 23 _ (0, 0) _ _ rfl rfl (setRow_heap _ _ _ _ _ _ G5.out) Tryd.underlying23 rfl (by kernel_rfl)) rfl ⟨by rw [HR.out.1, HR.out.2.1, HR.out.2.2]; rfl, below_setRow B5.out (Nat.le_refl _) _⟩
      · have t2 : ((x : Int) != 58) = true := by rw [bne_iff_ne]; omega
        have HD := Lib.hid (show s.getD k 0 ≠ 58 from fun e => by rw [HX.out.1] at e; rw [e] at HX; exact h58 HX.out.2.symm)
        clear h58 hc hx
        go_wp2
        go_roundw
        case rel => exact ⟨trivial, k + 1, by omega, by go_num, fun j h2 => by
          rcases Nat.lt_or_ge j k with h | h
          · exact HA.out j h
          · obtain rfl : j = k := by omega
            exact HD.out⟩
        case measure => simp [intOf]; omega
    · obtain rfl : k = n := by omega
      have hd := no_colon (s := s) (fun j hj => HA.out j (by rw [HN.out]; exact hj))
      have HR := Lib.hid (show parR s = 0 ∧ parQ s = 0 ∧ parErr s = 2 by rw [parR, parQ, parErr, hd]; exact ⟨rfl, rfl, rfl⟩)
      clear hd hlt
      have G5 := Lib.hid H0.out
      go_wp2_with (first
        | (refine build_on (by rfl) 23 #[] rfl _ _ dot_built0 (by simp [Act.eval]) ?_)
        | (refine wpList_store_row rfl 23 (.tmp 2) (.tmp 26) rfl w.heap.size _ rfl rfl 23 _ G5.out (by kernel_rfl) rfl (dot_one _ _) ?_))
      exact bodyPost_ret (results_cell2 Tryd.results17 _ _ w.heap.size 23 _ (0, 0) _ _ rfl rfl (setRow_heap _ _ _ _ _ _ G5.out) Tryd.underlying23 rfl (by kernel_rfl)) rfl ⟨by rw [HR.out.1, HR.out.2.1, HR.out.2.2]; rfl, below_setRow B0.out (Nat.le_refl _) _⟩
end Go.Proofs.YtfechljjkblkhaaDoor
