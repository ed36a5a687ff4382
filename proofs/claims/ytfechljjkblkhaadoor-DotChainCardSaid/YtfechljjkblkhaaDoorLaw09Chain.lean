/-
The walk of the statement on so many times the next dot.
-/
import Derived.Test.YtfechljjkblkhaaDoorLaw09Back
namespace Go.Proofs.YtfechljjkblkhaaDoor
open Go.RowKit
def lastT (r : Int) (k : Nat) : List UInt8 := if k = 0 then [] else textD r (k : Int)
theorem chain_step (r : Int) (k : Nat) (h0 : 0 ≤ r) (h1 : r < 32) (hk : k < 255) : nextErr r k = 0 ∧ nextR r k = r ∧ nextQ r k = ((k + 1 : Nat) : Int) ∧ cmpD r k r ((k + 1 : Nat) : Int) = -1 ∧ (textD r ((k + 1 : Nat) : Int) == lastT r k) = false ∧ lastT r (k + 1) = textD r ((k + 1 : Nat) : Int) := by
  have h := next_cases r (k : Int)
  have e : nextErr r (k : Int) = 0 := by omega
  have hc := cmp_cases r (k : Int) r ((k + 1 : Nat) : Int)
  refine ⟨e, by rw [nextR, if_pos e], by rw [nextQ, if_pos e]; omega, by omega, ?_, by rw [lastT, if_neg (by omega)]⟩
  rw [beq_eq_false_iff_ne, lastT]
  split
  · exact textD_ne _ _
  · intro hh
    have := (textD_inj hh).2; omega
theorem dots_one (a b : Int) : (#[Value.int .i64 a, Value.int .i64 b]).all (·.oneCell') = true := by simp [Value.oneCell']
theorem chain_more (k j n : Nat) (hj : j = k + 1) (hlt : k < n) : j ≤ n ∧ n - j < n - k := by omega
theorem i64_few (n : Nat) (h : n < 1000) : I64 (n : Int) := by unfold I64; omega
theorem chain_nums (k j : Nat) (hj : j = k + 1) (hk : k < 256) : (k : Int) + 1 = (j : Int) ∧ wrap64 (j : Int) = (j : Int) ∧ IntKind.i64.wrap (j : Int) = (j : Int) ∧ j < 1000 := by
  rw [IntKind.wrap_i64, wrap64]; omega
theorem rem_u8 (n : Nat) (h : n < 256) : ∃ m : Nat, (n : Int).tmod 32 = (m : Int) ∧ IntKind.u8.wrap (m : Int) = (m : Int) ∧ IntKind.i64.wrap (m : Int) = (m : Int) ∧ wrap64 (m : Int) = (m : Int) ∧ (m : Int) < 32 ∧ (n : Int) % 32 = (m : Int) := by
  refine ⟨n % 32, by rw [Int.tmod_eq_emod_of_nonneg (by omega)]; omega, by rw [IntKind.wrap_u8]; omega, by rw [IntKind.wrap_i64]; omega, by rw [wrap64]; omega, by omega, by omega⟩
set_option maxRecDepth 100000 in
set_option maxHeartbeats 32000000 in
theorem dotChain_walk (F : DotFace) (a n : Nat) (ha : a < 256) (hn : n < 256) (w : World) (hT : PowTab w) :
    Calls Tryd.prog 8 #[.int .u8 (a : Int), .int .u8 (n : Int)] w fun e w' => e = .returned (.bool true) ∧ Below w.heap.size w w' := by
  have HT := Lib.hid hT
  have AW := Lib.hid (fun w hT => awake9_any F w hT)
  obtain ⟨m, e1, e2, e3, e4, hm, e5⟩ := rem_u8 a ha
  have HM := Lib.hid hm
  have HN := Lib.hid hn
  have n1 : IntKind.i64.wrap (n : Int) = (n : Int) := by rw [IntKind.wrap_i64]; omega
  have n2 : wrap64 (n : Int) = (n : Int) := by rw [wrap64]; omega
  clear hT hm hn ha
  go_enter Tryd.func8, Tryd.ntmps8
  go_upto_region 2 with (first | (go_at_call 9; refine (AW.out _ HT.out).mono ?_; rintro e w1 ⟨rfl, hb⟩; have B1 := Lib.hid hb; clear hb))
  go_upto_region 3 with (first | (refine build_on (by rfl) 23 #[(0, .tmp 14)] rfl _ _ (dot_built1 _) (by simp [Act.eval]) ?_))
  have K0 := Lib.hid ((Below.refl w1.heap.size w1).alloc (Nat.le_refl _) (.cells #[.int .i64 m, .int .i64 0] 23 (0, 0)))
  have G0 := Lib.hid (heap_last w1 (.cells #[.int .i64 m, .int .i64 0] 23 (0, 0)))
  generalize w1.alloc (.cells #[.int .i64 m, .int .i64 0] 23 (0, 0)) = W0 at *
  have B0 := Lib.hid (below_next B1.out K0.out)
  have HD := Lib.hid (show w.heap.size ≤ w1.heap.size from B1.out.size)
  generalize w1.heap.size = D at *
  clear K0 B1
  go_wp2
  go_loopw [7, 8] (fun s i wr => ∃ k : Nat, k ≤ n ∧ i = .int .i64 (k : Int) ∧ s = .string (str (lastT m k)) ∧ wr.heap[D]? = some (dotO m k) ∧ Below w.heap.size w wr) (fun _ i _ => n - (intOf i).toNat)
  case atStart => exact ⟨0, Nat.zero_le _, rfl, rfl, G0.out, B0.out⟩
  case round =>
    obtain ⟨k, hk, rfl, rfl, hg, hb⟩ := hrel
    have G1 := Lib.hid (show wr.heap[D]? = some (.cells #[.int .i64 m, .int .i64 (k : Int)] 23 (0, 0)) from hg)
    have B1 := Lib.hid hb
    clear hg hb
    by_cases hlt : k < n
    · have q0 : (k : Int) < (n : Int) := by omega
      obtain ⟨c1, c2, c3, c4, c5, c6⟩ := chain_step (m : Int) k (by omega) HM.out (by have := HN.out; omega)
      have im := i64_few m (by have := HM.out; omega)
      have ik := i64_few k (by have := HN.out; omega)
      have X1 := Lib.hid (fun w => F.next w (m : Int) (k : Int) im ik)
      rw [c1, c2, c3] at X1
      obtain ⟨j, hj⟩ : ∃ j : Nat, j = k + 1 := ⟨_, rfl⟩
      rw [← hj] at X1 c4 c5 c6
      obtain ⟨j1, j2, j3, j4⟩ := chain_nums k j hj (by have := HN.out; omega)
      have ij := i64_few j j4
      have T1 := Lib.hid (fun w hT => F.text w (m : Int) (j : Int) im ij hT)
      have C1 := Lib.hid (fun w => F.compare w (m : Int) (k : Int) (m : Int) (j : Int) im ik im ij)
      clear im ik ij j4
      rw [c4] at C1
      obtain ⟨X, hX⟩ : ∃ X, X = textD (m : Int) (j : Int) := ⟨_, rfl⟩
      obtain ⟨Y, hY⟩ : ∃ Y, Y = lastT (m : Int) k := ⟨_, rfl⟩
      rw [← hX] at T1 c6
      rw [← hX, ← hY] at c5
      rw [← hY]
      have hx1 : (str X).toList = X := str_toList X
      have hy1 : (str Y).toList = Y := str_toList Y
      have HJ := Lib.hid (And.intro (chain_more k j n hj hlt).1 (And.intro c6 (chain_more k j n hj hlt).2))
      clear hX hY c1 c2 c3 c4 c6 hj
      go_upto_region 8 with (first
        | (refine load_row_on (by rfl) 23 (.tmp 6) rfl D rfl 23 _ (0, 0) _ G1.out Tryd.underlying23 rfl (by kernel_rfl) ?_)
        | (go_at_call 10; refine (X1.out _).mono ?_; rintro e w2 ⟨rfl, hb⟩; have G2 := Lib.hid (row_kept G1.out hb); have B2 := Lib.hid (below_next B1.out hb); clear hb))
      have K3 := Lib.hid ((Below.refl w2.heap.size w2).alloc (Nat.le_refl _) (.cells #[.int .i64 m, .int .i64 j] 23 (0, 0)))
      have N3 := Lib.hid (heap_last w2 (.cells #[.int .i64 m, .int .i64 j] 23 (0, 0)))
      generalize w2.alloc (.cells #[.int .i64 m, .int .i64 j] 23 (0, 0)) = W3 at *
      have G3 := Lib.hid (row_kept G2.out K3.out)
      have B3 := Lib.hid (below_next B2.out K3.out)
      go_upto_region 10 with (first
        | (refine load_row_on (by rfl) 23 (.tmp 9) rfl w2.heap.size rfl 23 _ (0, 0) _ N3.out Tryd.underlying23 rfl (by kernel_rfl) ?_)
        | (go_at_call 18; refine (T1.out _ (powTab_below HT.out B3.out)).mono ?_; rintro e w4 ⟨rfl, hb⟩; have G4 := Lib.hid (row_kept G3.out hb); have N4 := Lib.hid (row_kept N3.out hb); have B4 := Lib.hid (below_next B3.out hb); clear hb)
        | (refine load_row_on (by rfl) 23 (.tmp 6) rfl D rfl 23 _ (0, 0) _ G4.out Tryd.underlying23 rfl (by kernel_rfl) ?_)
        | (refine load_row_on (by rfl) 23 (.tmp 9) rfl w2.heap.size rfl 23 _ (0, 0) _ N4.out Tryd.underlying23 rfl (by kernel_rfl) ?_)
        | (go_at_call 12; refine (C1.out _).mono ?_; rintro e w5 ⟨rfl, hb⟩; have G5 := Lib.hid (row_kept G4.out hb); have N5 := Lib.hid (row_kept N4.out hb); have B5 := Lib.hid (below_next B4.out hb); clear hb))
      go_wp2_with (first
        | (refine load_row_on (by rfl) 23 (.tmp 9) rfl w2.heap.size rfl 23 _ (0, 0) _ N5.out Tryd.underlying23 rfl (by kernel_rfl) ?_)
        | (go_at_call 18; with_reducible refine (T1.out w5 (powTab_below HT.out B5.out)).mono ?_; rintro e w6 ⟨rfl, hb⟩; have G6 := Lib.hid (row_kept G5.out hb); have N6 := Lib.hid (row_kept N5.out hb); have B6 := Lib.hid (below_next B5.out hb); clear hb)
        | (refine load_row_on (by rfl) 23 (.tmp 9) rfl w2.heap.size rfl 23 _ (0, 0) _ N6.out Tryd.underlying23 rfl (by kernel_rfl) ?_)
        | (refine store_old rfl 23 (.tmp 6) (.tmp 43) rfl rfl D _ #[.int .i64 m, .int .i64 j] 23 G6.out rfl rfl (by kernel_rfl) rfl (dots_one _ _) ?_; intro w7 hh7 _ _ hb7; have H7 := Lib.hid hh7; have B7 := Lib.hid (hb7 _ _ B6.out HD.out); clear hh7 hb7))
      go_roundw
      case rel => exact ⟨j, HJ.out.1, rfl, by rw [HJ.out.2.1], H7.out, B7.out⟩
      case measure => simp [intOf]; exact HJ.out.2.2
    · have hkn : k = n := by omega
      subst hkn
      have d1 := dot_built m (k : Int)
      go_wp2_with (first
        | (refine load_row_on (by rfl) 23 (.tmp 6) rfl D rfl 23 _ (0, 0) _ G1.out Tryd.underlying23 rfl (by kernel_rfl) ?_)
        | (refine build_on (by rfl) 23 #[(0, .tmp 49), (1, .tmp 51)] rfl _ _ d1 (by simp [Act.eval]) ?_))
      go_ret
      exact ⟨rfl, B1.out⟩
end Go.Proofs.YtfechljjkblkhaaDoor
