/-
What package octal answers, walked over the landed code: Text.
-/
import Derived.Test.YtbjekhhefepnlaaDoorOctalPut
namespace Go.Proofs.YtbjekhhefepnlaaDoor
open Go.RowKit
/-- A text copied to the head of a block of bytes 0. -/
theorem copy_str {P : Program} {w : World} {ops : Array Oper} {rest : List Oper} {o : Oper} {a : Act} {Q : Exit → Act → World → Prop} (hgd : o.guard = none) (d s : Operand) (dT sT : TypeId)
    (ho : o.op = .call { callee := .builtin .copy, args := #[d, s], argTypes := #[dT, sT] }) (elem : TypeId) (hu : P.underlying dT = some (.slice elem)) (hsz : (P.info? elem).map (·.size) = some 1)
    (g n cap : Nat) (hd : a.eval d = .slice (some ⟨g, 0, none⟩) n cap) (l : List UInt8) (hs : a.eval s = .string (str l)) (t : TypeId) (hg : w.heap[g]? = some (.cells (byteRow (List.replicate n 0)) t (0, 0))) (hle : l.length ≤ n)
    (h : ∀ w', w'.heap[g]? = some (.cells (byteRow (l ++ List.replicate (n - l.length) 0)) t (0, 0)) → Solo g w w' → wpList P ops Q rest (a.put o.dst (goInt l.length)) w') : wpList P ops Q (o :: rest) a w := by
  refine wpList_plain hgd fun K hK => ?_
  have hrun := Lib.run_copy_row_string (P := P) w dT sT o.type elem g 0 n cap (str l) _ t hu hsz hg (by rw [str_size]; exact hle) (by rw [str_size, byteRow_size, List.length_replicate]; omega)
  have e : ((byteRow (List.replicate n 0)).toList.take 0 ++ Lib.byteCells (str l).data.toList ++ (byteRow (List.replicate n 0)).toList.drop (0 + (str l).size)).toArray = byteRow (l ++ List.replicate (n - l.length) 0) := by
    rw [str_size]
    simp [byteRow, str, Lib.byteCells]
  rw [e, str_size] at hrun
  unfold Oper.wp
  simp [execOp, ho, resolve, invoke, builtin, hd, hs, hrun, Result.andThen]
  exact hK _ _ (h _ (setRow_heap w g _ _ t _ hg) (solo_setRow w g _))
theorem index_zero (s : List UInt8) : ∃ z, Lib.indexByte (str s).data.toList ((0 : Int).toNat.toUInt8) = z ∧ decide (z ≥ 0) = s.contains 0 := by
  refine ⟨_, rfl, ?_⟩
  rw [show (str s).data.toList = s from by simp [str], show (0 : Int).toNat.toUInt8 = 0 from rfl]
  have hge := Lib.indexByte_ge s 0
  by_cases h : Lib.indexByte s 0 = -1
  · rw [h, Bool.eq_iff_iff]
    constructor
    · intro h; exact absurd h (by decide)
    · intro hc
      obtain ⟨k, hk, e⟩ := List.mem_iff_getElem.1 (List.contains_iff_mem.1 hc)
      exact absurd (by rw [List.getElem?_eq_getElem hk, e]) (Lib.indexByte_none h k)
  · obtain ⟨o, ho⟩ : ∃ o : Nat, Lib.indexByte s 0 = (o : Int) := ⟨(Lib.indexByte s 0).toNat, by omega⟩
    have := (Lib.indexByte_some ho).1
    rw [ho, List.contains_iff_mem.2 (List.mem_of_getElem? this)]
    exact decide_eq_true (by omega)
set_option maxHeartbeats 4000000 in
theorem text_any (s : List UInt8) (width : Int) (hw1 : -9223372036854775808 ≤ width) (hw2 : width < 9223372036854775808) (w : World) :
    Calls Tryd.prog 32 #[.string (str s), .int .i64 width] w fun e w' => ∃ v, e = .returned (.tuple #[v, .int .i64 (fieldErr s width)]) ∧ HasText w' v (fieldT s width) ∧ Below w.heap.size w w' := by
  obtain ⟨i0, hi, hz0, hz1, hz2⟩ := info_parts infoByte
  have hsz : (str s).size = s.length := str_size s
  by_cases h1 : width < 1
  · have HF := Lib.hid (show fieldErr s width = 1 from (fieldErr_width s width).2 (.inl h1))
    have d1 : decide (width < 1) = true := decide_eq_true h1
    clear h1 hw1 hw2
    go_enter Tryd.func32, Tryd.ntmps32
    go_wp2
    go_ret2
    rw [HF.out, field_bad HF.out (by decide)]
    exact ⟨_, rfl, hasText_nil _, Below.refl _ _⟩
  · have d1 : decide (width < 1) = false := decide_eq_false h1
    by_cases h255 : 255 < width
    · have HF := Lib.hid (show fieldErr s width = 1 from (fieldErr_width s width).2 (.inr h255))
      have d2 : decide (width > 255) = true := decide_eq_true h255
      clear h1 h255 hw1 hw2
      go_enter Tryd.func32, Tryd.ntmps32
      go_wp2
      go_ret2
      rw [HF.out, field_bad HF.out (by decide)]
      exact ⟨_, rfl, hasText_nil _, Below.refl _ _⟩
    · obtain ⟨m, rfl⟩ : ∃ m : Nat, width = (m : Int) := ⟨width.toNat, by omega⟩
      have d2 : decide ((m : Int) > 255) = false := decide_eq_false (by omega)
      have HM := Lib.hid (show 1 ≤ m ∧ m ≤ 255 by omega)
      obtain ⟨z, hz, hzc⟩ := index_zero s
      have I1 := Lib.hid (show ∀ w, Calls Tryd.prog 43 #[.string (str s), .int .u8 0] w fun e w' => e = .returned (.int .i64 z) ∧ w = w' from fun w => by
        refine (Tryd.strings_IndexByte (str s) 0 w).mono fun e w' h => ?_
        rw [hz] at h; exact ⟨h.1, h.2.symm⟩)
      clear hz h1 h255 hw1 hw2
      obtain ⟨n, hn⟩ : ∃ n, n = s.length := ⟨_, rfl⟩
      have HN := Lib.hid hn
      rw [← hn] at hsz
      clear hn
      by_cases hc : s.contains 0 = true
      · have HF := Lib.hid (show fieldErr s (m : Int) = 2 by rw [fieldErr, if_neg (by have := HM.out; omega), if_pos hc])
        rw [hc] at hzc
        clear hc
        go_enter Tryd.func32, Tryd.ntmps32
        go_wp2_with (first | (go_at_call 43; refine (I1.out _).mono ?_; rintro e w1 ⟨rfl, rfl⟩))
        go_ret2
        rw [HF.out, field_bad HF.out (by decide)]
        exact ⟨_, rfl, hasText_nil _, Below.refl _ _⟩
      · rw [Bool.not_eq_true] at hc
        by_cases hov : m < n
        · have HF := Lib.hid (show fieldErr s (m : Int) = 8 by rw [fieldErr, if_neg (by have := HM.out; omega), hc, if_neg (by decide), if_pos (by rw [← HN.out]; omega)])
          have q0 : (m : Int) < (n : Int) := by omega
          rw [hc] at hzc
          clear hc hov
          go_enter Tryd.func32, Tryd.ntmps32
          go_wp2_with (first | (go_at_call 43; refine (I1.out _).mono ?_; rintro e w1 ⟨rfl, rfl⟩))
          go_ret2
          rw [HF.out, field_bad HF.out (by decide)]
          exact ⟨_, rfl, hasText_nil _, Below.refl _ _⟩
        · have HF := Lib.hid (show fieldErr s (m : Int) = 0 from (fieldErr_ok _ _).2 ⟨by have := HM.out; omega, by have := HM.out; omega, hc, by rw [← HN.out]; omega⟩)
          have HE := Lib.hid (show fieldT s (m : Int) = s ++ List.replicate (m - s.length) 0 by rw [fieldT, if_pos HF.out, Int.toNat_natCast])
          have q0 : ¬ (n : Int) > (m : Int) := by omega
          rw [hc] at hzc
          have HL := Lib.hid (show s.length ≤ m by rw [← HN.out]; omega)
          clear hc hov
          go_enter Tryd.func32, Tryd.ntmps32
          go_wp2_with (first
            | (go_at_call 43; refine (I1.out _).mono ?_; rintro e w1 ⟨rfl, rfl⟩)
            | (refine wpList_make_full _ rfl (.tmp 20) (.tmp 20) 22 rfl w.heap.size 5 i0 (.int .u8 0) 1 Tryd.underlying22 hi hz0 hz1 .i64 .i64 (m : Int) (m : Int) m rfl rfl rfl rfl (by rw [hz2]; have := HM.out; omega) (by unfold maxLen; have := HM.out; omega) (Nat.le_refl _) ?_; intro w1 ho1 hg1; have HC1 := Lib.hid (made_row ho1); have HB1 := Lib.hid (below_grown (Below.refl w.heap.size w) hg1 (Nat.le_refl _) (fun k hk => by cases hk)); clear ho1 hg1)
            | (refine copy_str rfl (.tmp 22) (.tmp 23) 22 9 rfl 5 Tryd.underlying22 (by kernel_rfl) w.heap.size m m rfl s rfl 5 HC1.out HL.out ?_; intro w2 hg2 hs2; have HC2 := Lib.hid hg2; have HB2 := Lib.hid (solo_under HB1.out hs2 (Nat.le_refl _)); clear hg2 hs2))
          go_ret2
          rw [HF.out, HE.out]
          exact ⟨_, rfl, text_of_row HC2.out (by rw [List.length_append, List.length_replicate]; have := HL.out; omega), HB2.out⟩
end Go.Proofs.YtbjekhhefepnlaaDoor
