/-
What package octal answers, walked over the landed code: Put, Text.
-/
import Derived.Test.YtbjekhhefepnlaaDoorOctalGet
import Derived.Test.YtbjekhhefepnlaaDoorShelf
import Derived.OwnWalk
import Derived.Lib.IndexLaws
import Derived.Lib.BufferWrite
namespace Go.Proofs.YtbjekhhefepnlaaDoor
open Go.RowKit
/-- Bytes as cells. -/
def byteRow (l : List UInt8) : Array Value := (l.map fun b => Value.int .u8 (b.toNat : Int)).toArray
theorem byteRow_size (l : List UInt8) : (byteRow l).size = l.length := by simp [byteRow]
theorem text_of_row {w : World} {g n : Nat} {t : TypeId} {l : List UInt8} (h : w.heap[g]? = some (.cells (byteRow l) t (0, 0))) (hn : l.length = n) : HasText w (.slice (some ⟨g, 0, none⟩) n n) l := by
  subst hn
  refine ⟨some ⟨g, 0, none⟩, l.length, by rw [List.length_map], (fun h => by cases h), fun ad had => ⟨by rw [List.length_map]; exact Nat.le_refl _, fun j u hu => ?_⟩⟩
  cases had
  rw [bytesL_map] at hu
  rw [Addr.add_lit, Nat.zero_add, cell_of_row w g j _ _ _ h]
  simpa [byteRow] using hu
theorem solo_under {g B : Nat} {w0 w w' : World} (hb : Below B w0 w) (h : Solo g w w') (hg : B ≤ g) : Below B w0 w' :=
  hb.trans ⟨h.os, h.tape, h.output, Nat.le_of_eq h.size.symm, fun k hk => h.block k (by omega)⟩
theorem zeros_row (n : Nat) : (madeCells (Value.int .u8 0).cells (n * 1)).toList = (List.replicate n (0 : UInt8)).map fun b => Value.int .u8 (b.toNat : Int) := by
  apply List.ext_getElem
  · simp [madeCells]
  · intro i h1 h2
    simp [madeCells, Value.cells, Nat.mod_one]
/-- A block of bytes 0 just made. -/
theorem made_row {w : World} {base : Nat} {e : TypeId} {g m : Nat} (h : w.ownsRow base e 1 (.slice (some ⟨g, 0, none⟩) m m) m (madeCells (Value.int .u8 0).cells (m * 1)).toList) : w.heap[g]? = some (.cells (byteRow (List.replicate m 0)) e (0, 0)) := by
  obtain ⟨g0, cap0, cur0, hv0, hbase0, hg0, -, -, hsz0, ht0⟩ := own_block h (by simp)
  obtain ⟨rfl, rfl⟩ : g = g0 ∧ m = cap0 := by injection hv0 with e1 e2 e3; injection e1 with e1; injection e1 with e1; exact ⟨e1, e3⟩
  have hcur : cur0 = byteRow (List.replicate m 0) := by
    apply Array.toList_inj.1
    rw [byteRow, ← zeros_row, ← ht0, List.take_of_length_le (by rw [Array.length_toList, hsz0]; exact Nat.le_refl _)]
  rw [hcur] at hg0; exact hg0
theorem and_seven (y e : Nat) (hy : (y : Int) < 9223372036854775808) (he : e = y % 8) : bits .and .i64 (y : Int) 7 = (e : Int) := by
  have h := bits_mask .i64 63 (by decide) (fun n h0 h1 => by rw [IntKind.wrap_i64]; omega) 3 (by decide) (y : Int) (by omega) (by omega)
  rw [show (2 : Int) ^ 3 - 1 = 7 from by decide, show (2 : Int) ^ 3 = 8 from by decide] at h
  omega
theorem set_row (A : List UInt8) (r : Nat) (d : UInt8) : (byteRow (List.replicate (r + 1) 0 ++ A)).setIfInBounds r (.int .u8 (d.toNat : Int)) = byteRow (List.replicate r 0 ++ (d :: A)) := by
  apply Array.toList_inj.1
  rw [Array.toList_setIfInBounds]
  simp only [byteRow]
  rw [List.replicate_succ', List.append_assoc, List.map_append, List.map_append, List.set_append_right _ _ (by simp)]
  simp
theorem put_row (N j r c : Nat) (hc : c = 48 + N / 8 ^ j % 8) : (byteRow (List.replicate (r + 1) 0 ++ (octs j N ++ [0]))).setIfInBounds r (.int .u8 (c : Int)) = byteRow (List.replicate r 0 ++ (octs (j + 1) N ++ [0])) := by
  subst hc
  rw [octs_front, List.cons_append, ← set_row, oct_toNat _ (by omega)]
/-- The numbers of a round of Put. -/
theorem put_nums (y r m : Nat) (hy : (y : Int) < 9223372036854775808) (hm : r < m) (hm12 : m ≤ 12) : ∃ e c q : Nat, bits .and .i64 (y : Int) 7 = (e : Int) ∧ IntKind.u8.wrap (e : Int) = (e : Int) ∧ (e : Int) % 256 = (e : Int) ∧ (48 : Int) + (e : Int) = (c : Int) ∧ IntKind.u8.wrap (c : Int) = (c : Int) ∧ (c : Int) % 256 = (c : Int) ∧ (y : Int) / 8 = (q : Int) ∧ c = 48 + y % 8 ∧ q = y / 8 ∧ wrap64 ((r : Int) - 1) = (r : Int) - 1 ∧ (r : Int) < (m : Int) := by
  refine ⟨y % 8, 48 + y % 8, y / 8, and_seven y _ hy rfl, by rw [IntKind.wrap_u8]; omega, by omega, by omega, by rw [IntKind.wrap_u8]; omega, by omega, by omega, rfl, rfl, by rw [wrap64]; omega, by omega⟩
theorem put_yes (N m : Nat) (h2 : 2 ≤ m) (h12 : m ≤ 12) (h : N / 8 ^ (m - 1) = 0) : putErr (N : Int) (m : Int) = 0 ∧ putT (N : Int) (m : Int) = octs (m - 1) N ++ [0] := by
  have e : putErr (N : Int) (m : Int) = 0 := by rw [putErr, if_neg (by omega), if_neg (by omega), Int.toNat_natCast, Int.toNat_natCast, if_neg (by omega)]
  exact ⟨e, by rw [putT, if_pos e, Int.toNat_natCast, Int.toNat_natCast, putL]⟩
theorem put_no (N m : Nat) (h2 : 2 ≤ m) (h12 : m ≤ 12) (h : N / 8 ^ (m - 1) ≠ 0) : putErr (N : Int) (m : Int) = 8 ∧ putT (N : Int) (m : Int) = [] := by
  have e : putErr (N : Int) (m : Int) = 8 := by rw [putErr, if_neg (by omega), if_neg (by omega), Int.toNat_natCast, Int.toNat_natCast, if_pos h]
  exact ⟨e, by rw [putT, if_neg (by omega)]⟩
/-- The numbers of Put's tests. -/
theorem shift_nums (N m : Nat) (h2 : 2 ≤ m) (h12 : m ≤ 12) : ∃ f p q : Nat, (m : Int) - 1 = (f : Int) ∧ wrap64 (f : Int) = (f : Int) ∧ IntKind.i64.wrap (f : Int) = (f : Int) ∧ (3 : Int) * (f : Int) = (p : Int) ∧ wrap64 (p : Int) = (p : Int) ∧ IntKind.i64.wrap (p : Int) = (p : Int) ∧ (N : Int) / 2 ^ p = (q : Int) ∧ (0 : Int) ≤ (p : Int) ∧ (p : Int) ≤ 64 ∧ q = N / 8 ^ (m - 1) ∧ f = m - 1 ∧ 1 ≤ f := by
  refine ⟨m - 1, 3 * (m - 1), N / 8 ^ (m - 1), by omega, by rw [wrap64]; omega, by rw [IntKind.wrap_i64]; omega, by omega, by rw [wrap64]; omega, by rw [IntKind.wrap_i64]; omega, ?_, by omega, by omega, rfl, rfl, by omega⟩
  rw [show (8 : Nat) = 2 ^ 3 from rfl, ← Nat.pow_mul, Int.natCast_ediv, Int.natCast_pow]; rfl
set_option maxHeartbeats 4000000 in
theorem put_any (n width : Int) (hn1 : -9223372036854775808 ≤ n) (hn2 : n < 9223372036854775808) (w : World) :
    Calls Tryd.prog 33 #[.int .i64 n, .int .i64 width] w fun e w' => ∃ v, e = .returned (.tuple #[v, .int .i64 (putErr n width)]) ∧ HasText w' v (putT n width) ∧ Below w.heap.size w w' := by
  obtain ⟨i0, hi, hz0, hz1, hz2⟩ := info_parts infoByte
  by_cases h1 : width < 2
  · have HF := Lib.hid (show putErr n width = 1 from (putErr_width n width).2 (.inl h1))
    have d1 : decide (width < 2) = true := decide_eq_true h1
    clear h1 hn1 hn2
    go_enter Tryd.func33, Tryd.ntmps33
    go_wp2
    go_ret2
    rw [HF.out, put_bad HF.out (by decide)]
    exact ⟨_, rfl, hasText_nil _, Below.refl _ _⟩
  · have d1 : decide (width < 2) = false := decide_eq_false h1
    by_cases h12 : 12 < width
    · have HF := Lib.hid (show putErr n width = 1 from (putErr_width n width).2 (.inr h12))
      have d2 : decide (width > 12) = true := decide_eq_true h12
      clear h1 h12 hn1 hn2
      go_enter Tryd.func33, Tryd.ntmps33
      go_wp2
      go_ret2
      rw [HF.out, put_bad HF.out (by decide)]
      exact ⟨_, rfl, hasText_nil _, Below.refl _ _⟩
    · obtain ⟨m, rfl⟩ : ∃ m : Nat, width = (m : Int) := ⟨width.toNat, by omega⟩
      have d2 : decide ((m : Int) > 12) = false := decide_eq_false (by omega)
      have hm2 : 2 ≤ m := by omega
      have hm12 : m ≤ 12 := by omega
      clear h1 h12
      by_cases hneg : n < 0
      · have HF := Lib.hid (show putErr n (m : Int) = 8 by rw [putErr, if_neg (by omega), if_pos hneg])
        have d3 : decide (n < 0) = true := decide_eq_true hneg
        obtain ⟨f, p, q, e1, e2, e3, -⟩ := shift_nums 0 m hm2 hm12
        clear hneg hn1 hn2 hm2 hm12
        go_enter Tryd.func33, Tryd.ntmps33
        go_wp2
        go_ret2
        rw [HF.out, put_bad HF.out (by decide)]
        exact ⟨_, rfl, hasText_nil _, Below.refl _ _⟩
      · obtain ⟨N, rfl⟩ : ∃ N : Nat, n = (N : Int) := ⟨n.toNat, by omega⟩
        have d3 : decide ((N : Int) < 0) = false := decide_eq_false (by omega)
        obtain ⟨f, p, q, e1, e2, e3, e4, e5, e6, e7, e8, e9, hq, hf, hf1⟩ := shift_nums N m hm2 hm12
        clear hneg hn1
        by_cases hz : q = 0
        · subst hz
          have HY := Lib.hid (put_yes N m hm2 hm12 hq.symm)
          have hN2 := Lib.hid hn2
          have HM := Lib.hid (And.intro hm2 hm12)
          have HFm := Lib.hid (And.intro hf hf1)
          clear hq hn2 hm2 hm12 hf hf1
          go_enter Tryd.func33, Tryd.ntmps33
          go_wp2_with (first | (refine wpList_make_full _ rfl (.tmp 26) (.tmp 26) 22 rfl w.heap.size 5 i0 (.int .u8 0) 1 Tryd.underlying22 hi hz0 hz1 .i64 .i64 (m : Int) (m : Int) m rfl rfl rfl rfl (by rw [hz2]; have := HM.out; omega) (by unfold maxLen; have := HM.out; omega) (Nat.le_refl _) ?_; intro w1 ho1 hg1; have HO1 := Lib.hid ho1; have HG1 := Lib.hid hg1; clear ho1 hg1))
          have HC1 := Lib.hid (made_row HO1.out)
          have HB1 := Lib.hid (below_grown (Below.refl w.heap.size w) HG1.out (Nat.le_refl _) (fun k hk => by cases hk))
          clear HO1 HG1
          go_loopw [0, 8] (fun x c wr => ∃ j r : Nat, j + r = f ∧ c = .int .i64 ((r : Int) - 1) ∧ x = .int .i64 ((N / 8 ^ j : Nat) : Int) ∧ wr.heap[w.heap.size]? = some (.cells (byteRow (List.replicate r 0 ++ (octs j N ++ [0]))) 5 (0, 0)) ∧ Below w.heap.size w wr) (fun _ c _ => (intOf c + 1).toNat)
          case atStart => exact ⟨0, f, by omega, rfl, by simp, by rw [octs_zero, List.nil_append, ← List.replicate_succ', show f + 1 = m from by have := HFm.out; have := HM.out; omega]; exact HC1.out, HB1.out⟩
          case round =>
            clear HC1 HB1
            obtain ⟨j, r, hjr, rfl, rfl, hc, hb⟩ := hrel
            have HC := Lib.hid hc
            have HB := Lib.hid hb
            have HJ := Lib.hid hjr
            have hcs : (byteRow (List.replicate r 0 ++ (octs j N ++ [0]))).size = m := by
              rw [byteRow_size, List.length_append, List.length_append, octs_length, List.length_replicate, List.length_singleton]; have := HFm.out; have := HM.out; omega
            have HCS := Lib.hid hcs
            clear hc hb hjr hcs
            obtain ⟨y, hy⟩ : ∃ y, y = N / 8 ^ j := ⟨_, rfl⟩
            have hyN : y ≤ N := by rw [hy]; exact Nat.div_le_self _ _
            have hy63 : (y : Int) < 9223372036854775808 := by have := hN2.out; omega
            have HYY := Lib.hid hy
            rw [← hy]
            clear hy hyN
            cases r with
            | zero =>
              have d5 : decide ((((0 : Nat) : Int) - 1) ≥ 0) = false := by decide
              have HT := Lib.hid (text_of_row (n := m) HC.out (by rw [← byteRow_size]; exact HCS.out))
              have HE := Lib.hid (show List.replicate 0 (0 : UInt8) ++ (octs j N ++ [0]) = putT (N : Int) (m : Int) by rw [HY.out.2, ← HFm.out.1, ← HJ.out]; rfl)
              rw [HE.out] at HT
              clear hy63
              go_wp2
              go_ret2
              rw [HY.out.1]
              exact ⟨_, rfl, HT.out, HB.out⟩
            | succ r =>
              have ec : (((r + 1 : Nat) : Int) - 1) = (r : Int) := by omega
              rw [ec]
              obtain ⟨e, c, q, b1, b2, b3, b4, b5, b6, b7, hc, hq, b8, b9⟩ := put_nums y r m hy63 (by have := HFm.out; have := HJ.out; omega) HM.out.2
              have d5 : decide ((r : Int) ≥ 0) = true := decide_eq_true (by omega)
              have HQ := Lib.hid hq
              have HCC := Lib.hid hc
              have HR := Lib.hid (show r < m by omega)
              clear hq hc hy63 ec
              go_wp2_with (first | (refine store_cell rfl 5 (.tmp 40) (.tmp 39) rfl rfl .u8 w.heap.size r _ _ _ HC.out rfl rfl (by rw [HCS.out]; exact HR.out) (by kernel_rfl) ?_; intro w3 hg3 hs3; have H3 := Lib.hid hg3; have HB3 := Lib.hid (solo_under HB.out hs3 (Nat.le_refl _)); clear hg3 hs3))
              clear b1 b2 b3 b4 b5 b6 b7 e1 e2 e3 e4 e5 e6 e7 e8 e9
              refine ⟨⟨j + 1, r, by have := HJ.out; omega, rfl, ?_, ?_, HB3.out⟩, ?_⟩
              · rw [HQ.out, HYY.out, Nat.div_div_eq_div_mul, ← Nat.pow_succ]
              · have h := H3.out; rw [put_row N j r c (by rw [HCC.out, HYY.out])] at h; exact h
              · simp only [intOf]; omega
        · have d4 : ((q : Int) != 0) = true := by simp; omega
          have HY := Lib.hid (put_no N m hm2 hm12 (by rw [← hq]; exact hz))
          clear hq hz hn2 hm2 hm12 hf hf1
          go_enter Tryd.func33, Tryd.ntmps33
          go_wp2
          go_ret2
          rw [HY.out.1, HY.out.2]
          exact ⟨_, rfl, hasText_nil _, Below.refl _ _⟩
end Go.Proofs.YtbjekhhefepnlaaDoor
