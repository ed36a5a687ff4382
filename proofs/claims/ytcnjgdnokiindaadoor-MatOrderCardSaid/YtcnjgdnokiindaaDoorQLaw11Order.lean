/-
The walk of the statement that in whatever order rows are raised, and matrices joined, the matrix is the same.
-/
import Derived.Test.YtcnjgdnokiindaaDoorPk6
namespace Go.Proofs.YtcnjgdnokiindaaDoor
open Go.RowKit
theorem fits_raises (l : List W2) : ∀ m, Fits m → Fits (raises l m) := by
  induction l with
  | nil => intro m h; exact h
  | cons x t ih => intro m h; exact ih _ (fits_raise h _ _)
theorem may_raises (l : List W2) (K : Nat) (h1 : 1 ≤ K) (h2 : K ≤ 32) : mayM (raises l (newM K)) (K : Int) = true := by
  have hl : (raises l (newM K)).length = K := by rw [raises_length, newM, List.length_replicate]
  have hr := rows_raises l _ (rows_new K)
  have ha : (raises l (newM K)).all mayV = true := by
    rw [List.all_eq_true]
    intro x hx
    obtain ⟨i, hi⟩ := List.mem_iff_getElem?.1 hx
    have hlt := (List.getElem?_eq_some_iff.1 hi).1
    have h := hr i hlt
    rw [List.getD_eq_getElem?_getD, hi] at h
    exact h
  rw [mayM, ha, hl, decide_eq_true rfl, decide_eq_true (by omega), decide_eq_true (by omega)]; rfl
theorem len_raises (l : List W2) (K : Nat) : K = (raises l (newM K)).length := by rw [raises_length, newM, List.length_replicate]
theorem mod_nums (r K : Nat) (hr : r < 256) : (wrap64 (r : Int) = (r : Int) ∧ IntKind.i64.wrap (r : Int) = (r : Int)) ∧ (r : Int).tmod (K : Int) = ((r % K : Nat) : Int) ∧ (r : Int) % (K : Int) = ((r % K : Nat) : Int) := by
  refine ⟨⟨by rw [wrap64]; omega, by rw [IntKind.wrap_i64]; omega⟩, ?_, rfl⟩
  rw [Int.tmod_eq_emod_of_nonneg (by omega)]; rfl
theorem many_nums (c : Nat) (hc : c < 256) : ∃ d K : Nat, d < 32 ∧ (c : Int).tmod 32 = (d : Int) ∧ (c : Int) % 32 = (d : Int) ∧ wrap64 (d : Int) = (d : Int) ∧ (1 : Int) + (d : Int) = (K : Int) ∧ 1 ≤ K ∧ K ≤ 32 := by
  refine ⟨c % 32, 1 + c % 32, Nat.mod_lt _ (by decide), ?_, rfl, by rw [wrap64]; omega, by omega, by omega, by omega⟩
  rw [Int.tmod_eq_emod_of_nonneg (by omega)]; rfl
theorem back_nums (N i : Nat) (hN : N ≤ 60) (hi : i < N) : ∃ p j : Nat, (N : Int) - 1 = (p : Int) ∧ (p : Int) - (i : Int) = (j : Int) ∧ i + j + 1 = N ∧ j < N :=
  ⟨N - 1, N - 1 - i, by omega, by omega, by omega, by omega⟩
theorem zeroR : (Tryd.prog.info? 39).map (fun i => i.zero) = some (some (.agg #[.int .u8 0, .slice none 0 0])) := by kernel_rfl
theorem sizeR : (Tryd.prog.info? 39).map (·.size) = some 2 := by kernel_rfl
theorem box_cells {w : World} {g : Nat} {t : TypeId} {x y : Value} (h : w.heap[g]? = some (.cells #[x, y] t (0, 0))) : w.cell? ⟨g, 0, none⟩ = some x ∧ w.cell? ⟨g, 1, none⟩ = some y :=
  ⟨by rw [cell_of_row _ _ 0 _ _ _ h]; rfl, by rw [cell_of_row _ _ 1 _ _ _ h]; rfl⟩
set_option maxRecDepth 100000 in
set_option maxHeartbeats 32000000 in
theorem matOrder_walk (c e : Nat) (hc : c < 256) (he : e < 256) (l : List W2) (hl8 : ∀ x ∈ l, x.1 < 256 ∧ x.2.length < 10000000000000) (v : Value) (w : World) (hv : HasRaised w v l) (hT : PowTab w) :
    Calls Tryd.prog 4 #[.int .u8 (c : Int), v, .int .u8 (e : Int)] w fun e w' => e = .returned (.bool true) ∧ Below w.heap.size w w' := by
  have HT := Lib.hid hT
  have AW := Lib.hid (fun w hT => awake11_any w hT)
  have B0 := Lib.hid (Below.refl w.heap.size w)
  have HL8 := Lib.hid (fun i x (hx : l[i]? = some x) => hl8 x (List.mem_of_getElem? hx))
  have RA_0 := Lib.hid hv
  obtain ⟨lo, lc, rfl⟩ := raised_shape hv l.length rfl
  obtain ⟨N, hN⟩ : ∃ N, N = l.length := ⟨_, rfl⟩
  have HN := Lib.hid hN
  rw [← hN] at RA_0 ⊢
  obtain ⟨d, K, hd, tm32, te32, wd, eK, hK1, hK2⟩ := many_nums c hc
  have HKK := Lib.hid (And.intro hK1 hK2)
  have HKL := Lib.hid (fun (l : List W2) (_ : Unit) => len_raises l K)
  have NW := Lib.hid (fun w => new_any K hK1 hK2 w)
  have HNL := Lib.hid (show K = (newM K).length by rw [newM, List.length_replicate])
  clear hT hv hN hl8 hc
  by_cases h60 : N > 60
  · have q1 : (N : Int) > 60 := by omega
    clear h60
    go_enter Tryd.func4, Tryd.ntmps4
    go_wp2_with (first
      | (go_at_call 8; with_reducible refine (AW.out w (powTab_below HT.out B0.out)).mono ?_; rintro e w1 ⟨rfl, hb⟩; have B1 := Lib.hid (below_next B0.out hb); have RA_1 := Lib.hid (raised_below RA_0.out hb); clear hb))
    go_ret
    exact ⟨rfl, B1.out⟩
  · have q1 : ¬ (N : Int) > 60 := by omega
    have hN4 : N ≤ 60 := by omega
    obtain ⟨cut, hcut⟩ : ∃ cut : Nat, cut ≤ N ∧ ((0 < N ∧ wrap64 (e : Int) = (e : Int) ∧ (e : Int).tmod (N : Int) = (cut : Int) ∧ (e : Int) % (N : Int) = (cut : Int)) ∨ (N = 0 ∧ cut = 0)) := by
      by_cases h0 : 0 < N
      · obtain ⟨⟨a1, -⟩, a2, a3⟩ := mod_nums e N he
        exact ⟨e % N, Nat.le_of_lt (Nat.mod_lt _ h0), .inl ⟨h0, a1, a2, a3⟩⟩
      · exact ⟨0, Nat.zero_le _, .inr ⟨by omega, rfl⟩⟩
    have HCUT := Lib.hid hcut.1
    replace hcut := hcut.2
    clear he h60
    go_enter Tryd.func4, Tryd.ntmps4
    go_upto_if 38 with (first
      | (go_at_call 8; with_reducible refine (AW.out w (powTab_below HT.out B0.out)).mono ?_; rintro e w1 ⟨rfl, hb⟩; have B1 := Lib.hid (below_next B0.out hb); have RA_1 := Lib.hid (raised_below RA_0.out hb); clear hb)
      | (go_at_call 17; with_reducible refine (NW.out w1).mono ?_; rintro e w2 ⟨x2, rfl, hx, hb⟩; have MA_2 := Lib.hid hx; obtain ⟨xo2, xc2, rfl⟩ := mat_shape hx K HNL.out; have RA_2 := Lib.hid (raised_below RA_1.out hb); have B2 := Lib.hid (below_next B1.out hb); clear hb hx)
      | (go_at_call 17; with_reducible refine (NW.out w2).mono ?_; rintro e w3 ⟨x3, rfl, hx, hb⟩; have MB_3 := Lib.hid hx; obtain ⟨xo3, xc3, rfl⟩ := mat_shape hx K HNL.out; have MA_3 := Lib.hid (mat_below MA_2.out hb); have RA_3 := Lib.hid (raised_below RA_2.out hb); have B3 := Lib.hid (below_next B2.out hb); clear hb hx)
      | (go_at_call 17; with_reducible refine (NW.out w3).mono ?_; rintro e w4 ⟨x4, rfl, hx, hb⟩; have MO_4 := Lib.hid hx; obtain ⟨xo4, xc4, rfl⟩ := mat_shape hx K HNL.out; have MA_4 := Lib.hid (mat_below MA_3.out hb); have MB_4 := Lib.hid (mat_below MB_3.out hb); have RA_4 := Lib.hid (raised_below RA_3.out hb); have B4 := Lib.hid (below_next B3.out hb); clear hb hx)
      | (go_at_call 17; with_reducible refine (NW.out w4).mono ?_; rintro e w5 ⟨x5, rfl, hx, hb⟩; have MT_5 := Lib.hid hx; obtain ⟨xo5, xc5, rfl⟩ := mat_shape hx K HNL.out; have MA_5 := Lib.hid (mat_below MA_4.out hb); have MB_5 := Lib.hid (mat_below MB_4.out hb); have MO_5 := Lib.hid (mat_below MO_4.out hb); have RA_5 := Lib.hid (raised_below RA_4.out hb); have B5 := Lib.hid (below_next B4.out hb); clear hb hx))
    go_cut [13] (fun s13 wx => s13 = .int .i64 (cut : Int) ∧ wx = w5)
    case first =>
      rename_i JJ KK hJJ hKK
      have HJJ := Lib.hid hJJ
      have HKC := Lib.hid hKK
      clear hJJ hKK
      rcases hcut with ⟨h0, a1, a2, a3⟩ | ⟨h0, h1⟩
      · have q0 : 0 < N := h0
        have q00 : (N : Int) > 0 := by omega
        clear h0
        go_wp2_with fail
        refine HKC.out _ _ ?_
        have hJJ := HJJ.out
        go_meet
        exact ⟨rfl, rfl⟩
      · subst h0
        subst h1
        go_wp2_with fail
        refine HKC.out _ _ ?_
        have hJJ := HJJ.out
        go_meet
        exact ⟨rfl, rfl⟩
    case rest =>
      obtain ⟨rfl, hwx⟩ := hcut
      have hwx' := hwx.symm
      subst hwx'
      go_wp2
      go_loopw [9, 10, 11, 12, 14] (fun a b one two ct wr => ∃ i : Nat, i ≤ N ∧ ct = .int .i64 (i : Int) ∧ (HasMat wr a (raises ((redu K l).take i) (newM K)) ∧ HasMat wr b (raises ((redu K l).reverse.take i) (newM K))) ∧ (HasMat wr one (raises ((redu K l).take (min i cut)) (newM K)) ∧ HasMat wr two (raises (((redu K l).take i).drop cut) (newM K))) ∧ Below w5.heap.size w5 wr) (fun _ _ _ _ ct _ => N - (intOf ct).toNat)
      case atStart => exact ⟨0, Nat.zero_le _, rfl, ⟨MA_5.out, MB_5.out⟩, ⟨by rw [Nat.zero_min]; exact MO_5.out, by rw [List.take_zero, List.drop_nil]; exact MT_5.out⟩, Below.refl _ _⟩
      case round =>
        obtain ⟨i, hi, rfl, ⟨hma, hmb⟩, ⟨hmo, hmt⟩, hb⟩ := hrel
        obtain ⟨aao, aac, rfl⟩ := mat_shape hma K (HKL.out _ ())
        obtain ⟨bbo, bbc, rfl⟩ := mat_shape hmb K (HKL.out _ ())
        obtain ⟨ooo, ooc, rfl⟩ := mat_shape hmo K (HKL.out _ ())
        obtain ⟨tto, ttc, rfl⟩ := mat_shape hmt K (HKL.out _ ())
        have MA := Lib.hid hma
        have MB := Lib.hid hmb
        have MO := Lib.hid hmo
        have MT := Lib.hid hmt
        have HB := Lib.hid hb
        clear MA_5 MB_5 MO_5 MT_5
        by_cases hlt : i < N
        · have q0 : (i : Int) < (N : Int) := by omega
          have KK := Lib.hid (show i + 1 ≤ N ∧ N - (i + 1) < N - i by omega)
          obtain ⟨⟨r1, v1⟩, hx⟩ : ∃ x, l[i]? = some x := ⟨_, List.getElem?_eq_getElem (by have := HN.out; omega)⟩
          obtain ⟨p, j, ep, ej, hij, hj⟩ := back_nums N i hN4 hlt
          obtain ⟨⟨r2, v2⟩, hy⟩ : ∃ x, l[j]? = some x := ⟨_, List.getElem?_eq_getElem (by have := HN.out; omega)⟩
          have q5 : (j : Int) < (N : Int) := by omega
          obtain ⟨ad, cap1, u1, e1, c0, c1, hd1⟩ := raised_at (raised_below RA_5.out hb) N i HN.out.symm _ hx
          simp only [Value.slice.injEq] at e1
          obtain ⟨rfl, -, rfl⟩ := e1
          obtain ⟨ad', cap2, u2, e2, d0, d1, hd2⟩ := raised_at (raised_below RA_5.out hb) N j HN.out.symm _ hy
          simp only [Value.slice.injEq, Option.some.injEq] at e2
          obtain ⟨rfl, -, rfl⟩ := e2
          simp only at c0 hd1 d0 hd2
          obtain ⟨u1o, u1c, rfl⟩ := dots_shape hd1 v1.length rfl
          obtain ⟨u2o, u2c, rfl⟩ := dots_shape hd2 v2.length rfl
          obtain ⟨l1, hl1⟩ : ∃ l1, l1 = v1.length := ⟨_, rfl⟩
          obtain ⟨l2, hl2⟩ : ∃ l2, l2 = v2.length := ⟨_, rfl⟩
          rw [← hl1] at c1 hd1
          rw [← hl2] at d1 hd2
          have HLL1 := Lib.hid hl1
          obtain ⟨⟨w1a, w1b⟩, t1a, e1a⟩ := mod_nums r1 K (HL8.out _ _ hx).1
          obtain ⟨⟨w2a, w2b⟩, t2a, e2a⟩ := mod_nums r2 K (HL8.out _ _ hy).1
          have hrev : (redu K l).reverse[i]? = some (r2 % K, v2) := rev_at (redu_at hy) (by rw [redu_length]; have := HN.out; omega)
          have SA := Lib.hid (raises_take (redu_at (K := K) hx) (newM K))
          have SB := Lib.hid (raises_take hrev (newM K))
          have S1 := Lib.hid (fun h => one_next (c := cut) (redu_at (K := K) hx) h (newM K))
          have S2 := Lib.hid (fun h => two_next (c := cut) (redu_at (K := K) hx) h (newM K))
          have hf : Fits (newM K) := fits_new K (by have := HKK.out.2; omega)
          have RSA := Lib.hid (fun w v u hv hu => matRaise_long _ (fits_raises ((redu K l).take i) _ hf) ((r1 % K : Nat) : Int) v1 (HL8.out _ _ hx).2 v u w hv hu)
          have RSB := Lib.hid (fun w v u hv hu => matRaise_long _ (fits_raises ((redu K l).reverse.take i) _ hf) ((r2 % K : Nat) : Int) v2 (HL8.out _ _ hy).2 v u w hv hu)
          have RSO := Lib.hid (fun w v u hv hu => matRaise_long _ (fits_raises ((redu K l).take (min i cut)) _ hf) ((r1 % K : Nat) : Int) v1 (HL8.out _ _ hx).2 v u w hv hu)
          have RST := Lib.hid (fun w v u hv hu => matRaise_long _ (fits_raises (((redu K l).take i).drop cut) _ hf) ((r1 % K : Nat) : Int) v1 (HL8.out _ _ hx).2 v u w hv hu)
          rw [← SA.out] at RSA
          rw [← SB.out] at RSB
          obtain ⟨k1, hk1⟩ : ∃ k1, k1 = r1 % K := ⟨_, rfl⟩
          obtain ⟨k2, hk2⟩ : ∃ k2, k2 = r2 % K := ⟨_, rfl⟩
          rw [← hk1] at t1a e1a RSA RSO RST S1 S2
          rw [← hk2] at t2a e2a RSB
          have q6 : 0 < K := by have := HKK.out.1; omega
          have q7 : ¬ (K : Int) = 0 := by omega
          have q7' : ¬ K = 0 := by omega
          clear hma hmb hmo hmt hx hy hd hrev hf hk1 hk2 hij hj hi hl1 hl2
          by_cases hbig : l1 > 60
          · have q8 : (l1 : Int) > 60 := by omega
            have HB9 := Lib.hid (below_next B5.out HB.out)
            clear hbig hlt hb
            go_wp2
            go_ret
            exact ⟨rfl, HB9.out⟩
          · have q8 : ¬ (l1 : Int) > 60 := by omega
            have C0 := Lib.hid (And.intro c0 c1)
            have D0 := Lib.hid (And.intro d0 d1)
            have HD1 := Lib.hid hd1
            have HD2 := Lib.hid hd2
            have HLT := Lib.hid hlt
            clear hbig d0 d1 hd1 hd2 hlt hb
            go_upto_region 19 with (first
              | (clear c0 c1; refine load_pair (by rfl) 39 (.tmp 60) rfl (ad.add (i * 2)) rfl (.int .u8 (r1 : Int)) (.slice u1o l1 u1c) Tryd.underlying39 sizeR C0.out ?_)
              | (refine load_pair (by rfl) 39 (.tmp 68) rfl (ad.add (j * 2)) rfl (.int .u8 (r2 : Int)) (.slice u2o l2 u2c) Tryd.underlying39 sizeR ⟨cell_under D0.out.1 B6.out, cell_under D0.out.2 B6.out⟩ ?_)
              | (refine alloc_as rfl 39 rfl _ zeroR ?_)
              | (refine store_new rfl 39 (.tmp 15) (.tmp 61) rfl rfl wr _ #[.int .u8 (r1 : Int), .slice u1o l1 u1c] 39 rfl rfl rfl (by kernel_rfl) rfl (by simp [Value.oneCell']) ?_; intro w6 hg6 hb6 hs6; have G6 := Lib.hid hg6; have B6 := Lib.hid hb6; clear hg6 hb6 hs6)
              | (refine store_new rfl 39 (.tmp 16) (.tmp 69) rfl rfl w6 _ #[.int .u8 (r2 : Int), .slice u2o l2 u2c] 39 rfl rfl rfl (by kernel_rfl) rfl (by simp [Value.oneCell']) ?_; intro w7 hg7 hb7 hs7; have G7 := Lib.hid (row_kept G6.out hb7); have Y7 := Lib.hid hg7; have B7 := Lib.hid (below_next B6.out hb7); clear hg7 hb7 hs7))
            obtain ⟨g1, g2⟩ := box_cells G7.out
            obtain ⟨y1, y2⟩ := box_cells Y7.out
            have X0 := Lib.hid g1
            have X1 := Lib.hid g2
            have Y0 := Lib.hid y1
            have Y1 := Lib.hid y2
            have D7 := Lib.hid (dots_below HD1.out B7.out)
            have F7 := Lib.hid (dots_below HD2.out B7.out)
            have MA7 := Lib.hid (mat_below MA.out B7.out)
            have MB7 := Lib.hid (mat_below MB.out B7.out)
            have MO7 := Lib.hid (mat_below MO.out B7.out)
            have MT7 := Lib.hid (mat_below MT.out B7.out)
            clear g1 g2 y1 y2 G6 G7 Y7 C0 D0 HD1 HD2
            simp only [Act.put, List.setIfInBounds_toArray, List.set_cons_zero, List.set_cons_succ]
            refine wp_region_held_drew (S := fun w' => Below w7.heap.size w7 w') (by kernel_rfl) (drawS (Below.refl _ _)) (fun hHeld => ?_)
            generalize w7.drew = wd at hHeld ⊢
            refine take_at (i := 0) 70 rfl rfl (by kernel_rfl) (by kernel_rfl) (by kernel_rfl) (fun _ _ _ h => h) (sure_yes (by rfl) (fun w => by go_simp; try with_reducible rfl)) hHeld ?_
            simp only [List.setIfInBounds_toArray, List.set_cons_zero, List.set_cons_succ]
            refine take_at (i := 1) 71 rfl rfl (by kernel_rfl) (by kernel_rfl) (by kernel_rfl) (fun _ _ _ h => h) (sure_yes (by rfl) (fun w => by go_simp; try with_reducible rfl)) hHeld ?_
            simp only [List.setIfInBounds_toArray, List.set_cons_zero, List.set_cons_succ]
            refine take_at (i := 4) 74 rfl rfl (by kernel_rfl) (by kernel_rfl) (by kernel_rfl) (fun _ _ _ h => h) (sure_yes (by rfl) (fun w => by go_simp; try with_reducible rfl)) hHeld ?_
            simp only [List.setIfInBounds_toArray, List.set_cons_zero, List.set_cons_succ]
            refine take_at (i := 6) 76 rfl rfl (by kernel_rfl) (by kernel_rfl) (by kernel_rfl) (fun _ _ _ h => h) (sure_yes (by rfl) (fun w => by go_simp; try with_reducible rfl)) hHeld ?_
            simp only [List.setIfInBounds_toArray, List.set_cons_zero, List.set_cons_succ]
            refine take_at (i := 2) 72 rfl rfl (by kernel_rfl) (by kernel_rfl) (by kernel_rfl) (fun _ _ _ h => h) (cell_yields (by rfl) 5 (.tmp 71) rfl wr.heap.size 0 rfl .u8 (r1 : Int) Tryd.underlying5 (fun w h => cell_under X0.out h)) hHeld ?_
            simp only [List.setIfInBounds_toArray, List.set_cons_zero, List.set_cons_succ]
            refine take_at (i := 3) 73 rfl rfl (by kernel_rfl) (by kernel_rfl) (by kernel_rfl) (fun _ _ _ h => h) (sure_yes (by rfl) (fun w => by go_simp; try with_reducible rfl)) hHeld ?_
            simp only [List.setIfInBounds_toArray, List.set_cons_zero, List.set_cons_succ]
            refine take_at (i := 5) 75 rfl rfl (by kernel_rfl) (by kernel_rfl) (by kernel_rfl) (fun _ _ _ h => h) (sure_yes (by rfl) (fun w => by go_simp; try with_reducible rfl)) hHeld ?_
            simp only [List.setIfInBounds_toArray, List.set_cons_zero, List.set_cons_succ]
            refine take_at (i := 7) 77 rfl rfl (by kernel_rfl) (by kernel_rfl) (by kernel_rfl) (fun _ _ _ h => h) (slice_yields (by rfl) 37 (.tmp 76) rfl ⟨wr.heap.size, 1, none⟩ rfl u1o l1 u1c Tryd.underlying37 (fun w h => cell_under X1.out h)) hHeld ?_
            simp only [List.setIfInBounds_toArray, List.set_cons_zero, List.set_cons_succ]
            refine wpAnyH_ready (rs := [8]) (by kernel_rfl) (by simp) ?_
            refine AllReadyH.cons rfl (fun CONT hK => ?_) AllReadyH.nil
            go_simp
            go_at_call 18
            refine (RSA.out _ _ _ (mat_below MA7.out hHeld) (dots_below D7.out hHeld)).mono ?_
            rintro e w8 ⟨xw8, rfl, hx, hb⟩
            have NA := Lib.hid hx
            obtain ⟨xow8, xcw8, rfl⟩ := mat_shape hx K (HKL.out _ ())
            clear hx
            dsimp only
            refine hK.out _ _ (below_next hHeld hb) (fun hHeld => ?_)
            clear hK CONT hb
            refine take_at (i := 9) 9 rfl rfl (by kernel_rfl) (by kernel_rfl) (by kernel_rfl) (fun _ _ _ h => h) (sure_yes (by rfl) (fun w => by go_simp; try with_reducible rfl)) hHeld ?_
            simp only [List.setIfInBounds_toArray, List.set_cons_zero, List.set_cons_succ]
            refine wpAnyH_done (by kernel_rfl) ?_ _
            have X0_8 := Lib.hid (cell_under X0.out hHeld)
            have X1_8 := Lib.hid (cell_under X1.out hHeld)
            have Y0_8 := Lib.hid (cell_under Y0.out hHeld)
            have Y1_8 := Lib.hid (cell_under Y1.out hHeld)
            have D8 := Lib.hid (dots_below D7.out hHeld)
            have F8 := Lib.hid (dots_below F7.out hHeld)
            have MB8 := Lib.hid (mat_below MB7.out hHeld)
            have MO8 := Lib.hid (mat_below MO7.out hHeld)
            have MT8 := Lib.hid (mat_below MT7.out hHeld)
            have B8 := Lib.hid (below_next B7.out hHeld)
            clear hHeld X0 X1 Y0 Y1 D7 F7 MA7 MB7 MO7 MT7 B7
            go_upto_region 20 with fail
            refine wp_region_held_drew (S := fun w' => Below w8.heap.size w8 w') (by kernel_rfl) (drawS (Below.refl _ _)) (fun hHeld => ?_)
            generalize w8.drew = wd at hHeld ⊢
            refine take_at (i := 0) 79 rfl rfl (by kernel_rfl) (by kernel_rfl) (by kernel_rfl) (fun _ _ _ h => h) (sure_yes (by rfl) (fun w => by go_simp; try with_reducible rfl)) hHeld ?_
            simp only [List.setIfInBounds_toArray, List.set_cons_zero, List.set_cons_succ]
            refine take_at (i := 1) 80 rfl rfl (by kernel_rfl) (by kernel_rfl) (by kernel_rfl) (fun _ _ _ h => h) (sure_yes (by rfl) (fun w => by go_simp; try with_reducible rfl)) hHeld ?_
            simp only [List.setIfInBounds_toArray, List.set_cons_zero, List.set_cons_succ]
            refine take_at (i := 4) 83 rfl rfl (by kernel_rfl) (by kernel_rfl) (by kernel_rfl) (fun _ _ _ h => h) (sure_yes (by rfl) (fun w => by go_simp; try with_reducible rfl)) hHeld ?_
            simp only [List.setIfInBounds_toArray, List.set_cons_zero, List.set_cons_succ]
            refine take_at (i := 6) 85 rfl rfl (by kernel_rfl) (by kernel_rfl) (by kernel_rfl) (fun _ _ _ h => h) (sure_yes (by rfl) (fun w => by go_simp; try with_reducible rfl)) hHeld ?_
            simp only [List.setIfInBounds_toArray, List.set_cons_zero, List.set_cons_succ]
            refine take_at (i := 2) 81 rfl rfl (by kernel_rfl) (by kernel_rfl) (by kernel_rfl) (fun _ _ _ h => h) (cell_yields (by rfl) 5 (.tmp 80) rfl w6.heap.size 0 rfl .u8 (r2 : Int) Tryd.underlying5 (fun w h => cell_under Y0_8.out h)) hHeld ?_
            simp only [List.setIfInBounds_toArray, List.set_cons_zero, List.set_cons_succ]
            refine take_at (i := 3) 82 rfl rfl (by kernel_rfl) (by kernel_rfl) (by kernel_rfl) (fun _ _ _ h => h) (sure_yes (by rfl) (fun w => by go_simp; try with_reducible rfl)) hHeld ?_
            simp only [List.setIfInBounds_toArray, List.set_cons_zero, List.set_cons_succ]
            refine take_at (i := 5) 84 rfl rfl (by kernel_rfl) (by kernel_rfl) (by kernel_rfl) (fun _ _ _ h => h) (sure_yes (by rfl) (fun w => by go_simp; try with_reducible rfl)) hHeld ?_
            simp only [List.setIfInBounds_toArray, List.set_cons_zero, List.set_cons_succ]
            refine take_at (i := 7) 86 rfl rfl (by kernel_rfl) (by kernel_rfl) (by kernel_rfl) (fun _ _ _ h => h) (slice_yields (by rfl) 37 (.tmp 85) rfl ⟨w6.heap.size, 1, none⟩ rfl u2o l2 u2c Tryd.underlying37 (fun w h => cell_under Y1_8.out h)) hHeld ?_
            simp only [List.setIfInBounds_toArray, List.set_cons_zero, List.set_cons_succ]
            refine wpAnyH_ready (rs := [8]) (by kernel_rfl) (by simp) ?_
            refine AllReadyH.cons rfl (fun CONT hK => ?_) AllReadyH.nil
            go_simp
            go_at_call 18
            refine (RSB.out _ _ _ (mat_below MB8.out hHeld) (dots_below F8.out hHeld)).mono ?_
            rintro e w9 ⟨xw9, rfl, hx, hb⟩
            have NB := Lib.hid hx
            obtain ⟨xow9, xcw9, rfl⟩ := mat_shape hx K (HKL.out _ ())
            clear hx
            dsimp only
            refine hK.out _ _ (below_next hHeld hb) (fun hHeld => ?_)
            clear hK CONT hb
            refine take_at (i := 9) 10 rfl rfl (by kernel_rfl) (by kernel_rfl) (by kernel_rfl) (fun _ _ _ h => h) (sure_yes (by rfl) (fun w => by go_simp; try with_reducible rfl)) hHeld ?_
            simp only [List.setIfInBounds_toArray, List.set_cons_zero, List.set_cons_succ]
            refine wpAnyH_done (by kernel_rfl) ?_ _
            have X0_9 := Lib.hid (cell_under X0_8.out hHeld)
            have X1_9 := Lib.hid (cell_under X1_8.out hHeld)
            have D9 := Lib.hid (dots_below D8.out hHeld)
            have NA9 := Lib.hid (mat_below NA.out hHeld)
            have MO9 := Lib.hid (mat_below MO8.out hHeld)
            have MT9 := Lib.hid (mat_below MT8.out hHeld)
            have B9 := Lib.hid (below_next B8.out hHeld)
            clear hHeld X0_8 X1_8 Y0_8 Y1_8 D8 F8 NA MB8 MO8 MT8 B8
            by_cases hic : i < cut
            · have q9 : (i : Int) < (cut : Int) := by omega
              obtain ⟨z1, z2⟩ := S1.out hic
              rw [← z1] at RSO
              have HZ := Lib.hid z2
              clear z1 z2 hic
              go_upto_region 22 with fail
              refine wp_region_held_drew (S := fun w' => Below w9.heap.size w9 w') (by kernel_rfl) (drawS (Below.refl _ _)) (fun hHeld => ?_)
              generalize w9.drew = wd at hHeld ⊢
              refine take_at (i := 0) 91 rfl rfl (by kernel_rfl) (by kernel_rfl) (by kernel_rfl) (fun _ _ _ h => h) (sure_yes (by rfl) (fun w => by go_simp; try with_reducible rfl)) hHeld ?_
              simp only [List.setIfInBounds_toArray, List.set_cons_zero, List.set_cons_succ]
              refine take_at (i := 1) 92 rfl rfl (by kernel_rfl) (by kernel_rfl) (by kernel_rfl) (fun _ _ _ h => h) (sure_yes (by rfl) (fun w => by go_simp; try with_reducible rfl)) hHeld ?_
              simp only [List.setIfInBounds_toArray, List.set_cons_zero, List.set_cons_succ]
              refine take_at (i := 4) 95 rfl rfl (by kernel_rfl) (by kernel_rfl) (by kernel_rfl) (fun _ _ _ h => h) (sure_yes (by rfl) (fun w => by go_simp; try with_reducible rfl)) hHeld ?_
              simp only [List.setIfInBounds_toArray, List.set_cons_zero, List.set_cons_succ]
              refine take_at (i := 6) 97 rfl rfl (by kernel_rfl) (by kernel_rfl) (by kernel_rfl) (fun _ _ _ h => h) (sure_yes (by rfl) (fun w => by go_simp; try with_reducible rfl)) hHeld ?_
              simp only [List.setIfInBounds_toArray, List.set_cons_zero, List.set_cons_succ]
              refine take_at (i := 2) 93 rfl rfl (by kernel_rfl) (by kernel_rfl) (by kernel_rfl) (fun _ _ _ h => h) (cell_yields (by rfl) 5 (.tmp 92) rfl wr.heap.size 0 rfl .u8 (r1 : Int) Tryd.underlying5 (fun w h => cell_under X0_9.out h)) hHeld ?_
              simp only [List.setIfInBounds_toArray, List.set_cons_zero, List.set_cons_succ]
              refine take_at (i := 3) 94 rfl rfl (by kernel_rfl) (by kernel_rfl) (by kernel_rfl) (fun _ _ _ h => h) (sure_yes (by rfl) (fun w => by go_simp; try with_reducible rfl)) hHeld ?_
              simp only [List.setIfInBounds_toArray, List.set_cons_zero, List.set_cons_succ]
              refine take_at (i := 5) 96 rfl rfl (by kernel_rfl) (by kernel_rfl) (by kernel_rfl) (fun _ _ _ h => h) (sure_yes (by rfl) (fun w => by go_simp; try with_reducible rfl)) hHeld ?_
              simp only [List.setIfInBounds_toArray, List.set_cons_zero, List.set_cons_succ]
              refine take_at (i := 7) 98 rfl rfl (by kernel_rfl) (by kernel_rfl) (by kernel_rfl) (fun _ _ _ h => h) (slice_yields (by rfl) 37 (.tmp 97) rfl ⟨wr.heap.size, 1, none⟩ rfl u1o l1 u1c Tryd.underlying37 (fun w h => cell_under X1_9.out h)) hHeld ?_
              simp only [List.setIfInBounds_toArray, List.set_cons_zero, List.set_cons_succ]
              refine wpAnyH_ready (rs := [8]) (by kernel_rfl) (by simp) ?_
              refine AllReadyH.cons rfl (fun CONT hK => ?_) AllReadyH.nil
              go_simp
              go_at_call 18
              refine (RSO.out _ _ _ (mat_below MO9.out hHeld) (dots_below D9.out hHeld)).mono ?_
              rintro e w10 ⟨xw10, rfl, hx, hb⟩
              have NO := Lib.hid hx
              obtain ⟨xow10, xcw10, rfl⟩ := mat_shape hx K (HKL.out _ ())
              clear hx
              dsimp only
              refine hK.out _ _ (below_next hHeld hb) (fun hHeld => ?_)
              clear hK CONT hb
              refine take_at (i := 9) 11 rfl rfl (by kernel_rfl) (by kernel_rfl) (by kernel_rfl) (fun _ _ _ h => h) (sure_yes (by rfl) (fun w => by go_simp; try with_reducible rfl)) hHeld ?_
              simp only [List.setIfInBounds_toArray, List.set_cons_zero, List.set_cons_succ]
              refine wpAnyH_done (by kernel_rfl) ?_ _
              have NA10 := Lib.hid (mat_below NA9.out hHeld)
              have NB10 := Lib.hid (mat_below NB.out hHeld)
              have MT10 := Lib.hid (mat_below MT9.out hHeld)
              have B10 := Lib.hid (below_next B9.out hHeld)
              clear hHeld X0_9 X1_9 D9 NA9 MO9 MT9 B9 NB
              go_wp2
              refine ⟨⟨i + 1, KK.out.1, by simp, ⟨NA10.out, NB10.out⟩, ⟨NO.out, by rw [HZ.out]; exact MT10.out⟩, below_next HB.out B10.out⟩, ?_⟩
              have := KK.out.2; simp [intOf] <;> omega
            · have q9 : ¬ (i : Int) < (cut : Int) := by omega
              obtain ⟨z1, z2⟩ := S2.out hic
              rw [← z2] at RST
              have HZ := Lib.hid z1
              clear z1 z2 hic
              go_upto_region 23 with fail
              refine wp_region_held_drew (S := fun w' => Below w9.heap.size w9 w') (by kernel_rfl) (drawS (Below.refl _ _)) (fun hHeld => ?_)
              generalize w9.drew = wd at hHeld ⊢
              refine take_at (i := 0) 100 rfl rfl (by kernel_rfl) (by kernel_rfl) (by kernel_rfl) (fun _ _ _ h => h) (sure_yes (by rfl) (fun w => by go_simp; try with_reducible rfl)) hHeld ?_
              simp only [List.setIfInBounds_toArray, List.set_cons_zero, List.set_cons_succ]
              refine take_at (i := 1) 101 rfl rfl (by kernel_rfl) (by kernel_rfl) (by kernel_rfl) (fun _ _ _ h => h) (sure_yes (by rfl) (fun w => by go_simp; try with_reducible rfl)) hHeld ?_
              simp only [List.setIfInBounds_toArray, List.set_cons_zero, List.set_cons_succ]
              refine take_at (i := 4) 104 rfl rfl (by kernel_rfl) (by kernel_rfl) (by kernel_rfl) (fun _ _ _ h => h) (sure_yes (by rfl) (fun w => by go_simp; try with_reducible rfl)) hHeld ?_
              simp only [List.setIfInBounds_toArray, List.set_cons_zero, List.set_cons_succ]
              refine take_at (i := 6) 106 rfl rfl (by kernel_rfl) (by kernel_rfl) (by kernel_rfl) (fun _ _ _ h => h) (sure_yes (by rfl) (fun w => by go_simp; try with_reducible rfl)) hHeld ?_
              simp only [List.setIfInBounds_toArray, List.set_cons_zero, List.set_cons_succ]
              refine take_at (i := 2) 102 rfl rfl (by kernel_rfl) (by kernel_rfl) (by kernel_rfl) (fun _ _ _ h => h) (cell_yields (by rfl) 5 (.tmp 101) rfl wr.heap.size 0 rfl .u8 (r1 : Int) Tryd.underlying5 (fun w h => cell_under X0_9.out h)) hHeld ?_
              simp only [List.setIfInBounds_toArray, List.set_cons_zero, List.set_cons_succ]
              refine take_at (i := 3) 103 rfl rfl (by kernel_rfl) (by kernel_rfl) (by kernel_rfl) (fun _ _ _ h => h) (sure_yes (by rfl) (fun w => by go_simp; try with_reducible rfl)) hHeld ?_
              simp only [List.setIfInBounds_toArray, List.set_cons_zero, List.set_cons_succ]
              refine take_at (i := 5) 105 rfl rfl (by kernel_rfl) (by kernel_rfl) (by kernel_rfl) (fun _ _ _ h => h) (sure_yes (by rfl) (fun w => by go_simp; try with_reducible rfl)) hHeld ?_
              simp only [List.setIfInBounds_toArray, List.set_cons_zero, List.set_cons_succ]
              refine take_at (i := 7) 107 rfl rfl (by kernel_rfl) (by kernel_rfl) (by kernel_rfl) (fun _ _ _ h => h) (slice_yields (by rfl) 37 (.tmp 106) rfl ⟨wr.heap.size, 1, none⟩ rfl u1o l1 u1c Tryd.underlying37 (fun w h => cell_under X1_9.out h)) hHeld ?_
              simp only [List.setIfInBounds_toArray, List.set_cons_zero, List.set_cons_succ]
              refine wpAnyH_ready (rs := [8]) (by kernel_rfl) (by simp) ?_
              refine AllReadyH.cons rfl (fun CONT hK => ?_) AllReadyH.nil
              go_simp
              go_at_call 18
              refine (RST.out _ _ _ (mat_below MT9.out hHeld) (dots_below D9.out hHeld)).mono ?_
              rintro e w10 ⟨xw10, rfl, hx, hb⟩
              have NT := Lib.hid hx
              obtain ⟨xow10, xcw10, rfl⟩ := mat_shape hx K (HKL.out _ ())
              clear hx
              dsimp only
              refine hK.out _ _ (below_next hHeld hb) (fun hHeld => ?_)
              clear hK CONT hb
              refine take_at (i := 9) 12 rfl rfl (by kernel_rfl) (by kernel_rfl) (by kernel_rfl) (fun _ _ _ h => h) (sure_yes (by rfl) (fun w => by go_simp; try with_reducible rfl)) hHeld ?_
              simp only [List.setIfInBounds_toArray, List.set_cons_zero, List.set_cons_succ]
              refine wpAnyH_done (by kernel_rfl) ?_ _
              have NA10 := Lib.hid (mat_below NA9.out hHeld)
              have NB10 := Lib.hid (mat_below NB.out hHeld)
              have MO10 := Lib.hid (mat_below MO9.out hHeld)
              have B10 := Lib.hid (below_next B9.out hHeld)
              clear hHeld X0_9 X1_9 D9 NA9 MO9 MT9 B9 NB
              go_wp2
              refine ⟨⟨i + 1, KK.out.1, by simp, ⟨NA10.out, NB10.out⟩, ⟨by rw [HZ.out]; exact MO10.out, NT.out⟩, below_next HB.out B10.out⟩, ?_⟩
              have := KK.out.2; simp [intOf] <;> omega
        · have q0 : ¬ (i : Int) < (N : Int) := by omega
          obtain rfl : i = N := by omega
          have hRL : (redu K l).length = i := by rw [redu_length]; exact HN.out.symm
          have hrevl : (redu K l).reverse.length = i := by rw [List.length_reverse]; exact hRL
          have f1 : (redu K l).take i = redu K l := List.take_of_length_le (by omega)
          have f2 : (redu K l).reverse.take i = (redu K l).reverse := List.take_of_length_le (by omega)
          have f3 : min i cut = cut := Nat.min_eq_right HCUT.out
          rw [f1] at MA MT
          rw [f2, raises_rev] at MB
          rw [f3] at MO
          have hPP := raises_parts K ((redu K l).take cut) ((redu K l).drop cut)
          rw [List.take_append_drop] at hPP
          have hTW := raises_twice K (redu K l)
          have hf : Fits (newM K) := fits_new K (by have := HKK.out.2; omega)
          have RA_6 := Lib.hid (raised_below RA_5.out hb)
          have B6 := Lib.hid (below_next B5.out hb)
          have hfA := fits_raises (redu K l) _ hf
          have MY := Lib.hid (fun w v hv => matMay_any _ hfA (K : Int) v w hv)
          rw [may_raises _ K HKK.out.1 HKK.out.2] at MY
          have ES := Lib.hid (fun w v u hv hu => same_self _ (fits_two hfA) v u w hv hu)
          have J1 := Lib.hid (fun w v u hv hu => matJoin_any _ _ (fits_raises ((redu K l).take cut) _ hf) (fits_raises ((redu K l).drop cut) _ hf) v u w hv hu)
          have J2 := Lib.hid (fun w v u hv hu => matJoin_any _ _ (fits_raises ((redu K l).drop cut) _ hf) (fits_raises ((redu K l).take cut) _ hf) v u w hv hu)
          rw [hPP.1] at J1
          rw [hPP.2] at J2
          obtain ⟨A, hA⟩ : ∃ A, A = raises (redu K l) (newM K) := ⟨_, rfl⟩
          rw [← hA] at MA MB MY ES J1 J2 hfA hTW
          have HTW := Lib.hid hTW
          have HFA := Lib.hid hfA
          have q6 : 0 < K := by have := HKK.out.1; omega
          have q7 : ¬ (K : Int) = 0 := by omega
          have q7' : ¬ K = 0 := by omega
          have HAL := Lib.hid (show K = A.length by rw [hA]; exact HKL.out _ ())
          have HRL := Lib.hid (fun l => show K = (raises l A).length by rw [raises_length]; exact HAL.out)
          have AGN := Lib.hid (show raises ((redu K l).take i) A = A by rw [f1]; exact hTW)
          clear hma hmb hmo hmt hb hlt hi hRL hrevl f1 f2 f3 hPP hTW hf hfA hA HB hd
          go_wp2
          go_loopw [17, 18] (fun ag ct wx => ∃ j : Nat, j ≤ i ∧ ct = .int .i64 (j : Int) ∧ HasMat wx ag (raises ((redu K l).take j) A) ∧ Below wr.heap.size wr wx) (fun _ ct _ => i - (intOf ct).toNat)
          case atStart => exact ⟨0, Nat.zero_le _, rfl, MA.out, Below.refl _ _⟩
          case round =>
            obtain ⟨j, hj, rfl, hmg, hb⟩ := hrel
            obtain ⟨ggo, ggc, rfl⟩ := mat_shape hmg K (HRL.out _)
            have MG := Lib.hid hmg
            have HB := Lib.hid hb
            by_cases hlt : j < i
            · have q0 : (j : Int) < (i : Int) := by omega
              have KK := Lib.hid (show j + 1 ≤ i ∧ i - (j + 1) < i - j by omega)
              obtain ⟨⟨r1, v1⟩, hx⟩ : ∃ x, l[j]? = some x := ⟨_, List.getElem?_eq_getElem (by have := HN.out; omega)⟩
              obtain ⟨ad, cap1, u1, e1, c0, c1, hd1⟩ := raised_at (raised_below RA_6.out hb) i j HN.out.symm _ hx
              simp only [Value.slice.injEq] at e1
              obtain ⟨rfl, -, rfl⟩ := e1
              simp only at c0 hd1
              obtain ⟨u1o, u1c, rfl⟩ := dots_shape hd1 v1.length rfl
              obtain ⟨l1, hl1⟩ : ∃ l1, l1 = v1.length := ⟨_, rfl⟩
              rw [← hl1] at c1 hd1
              obtain ⟨⟨w1a, w1b⟩, t1a, e1a⟩ := mod_nums r1 K (HL8.out _ _ hx).1
              have SA := Lib.hid (raises_take (redu_at (K := K) hx) A)
              have RSG := Lib.hid (fun w v u hv hu => matRaise_long _ (fits_raises ((redu K l).take j) _ HFA.out) ((r1 % K : Nat) : Int) v1 (HL8.out _ _ hx).2 v u w hv hu)
              rw [← SA.out] at RSG
              obtain ⟨k1, hk1⟩ : ∃ k1, k1 = r1 % K := ⟨_, rfl⟩
              rw [← hk1] at t1a e1a RSG
              have C0 := Lib.hid c0
              have C1 := Lib.hid c1
              have D0 := Lib.hid hd1
              clear hmg hb hlt hx c0 c1 hd1 hk1 hl1 hj
              go_upto_region 28 with fail
              refine wp_region_held_drew (S := fun w' => Below wr.heap.size wr w') (by kernel_rfl) (drawS (Below.refl _ _)) (fun hHeld => ?_)
              generalize wr.drew = wd at hHeld ⊢
              refine take_at (i := 0) 116 rfl rfl (by kernel_rfl) (by kernel_rfl) (by kernel_rfl) (fun _ _ _ h => h) (sure_yes (by rfl) (fun w => by go_simp; try with_reducible rfl)) hHeld ?_
              simp only [List.setIfInBounds_toArray, List.set_cons_zero, List.set_cons_succ]
              refine take_at (i := 1) 117 rfl rfl (by kernel_rfl) (by kernel_rfl) (by kernel_rfl) (fun _ _ _ h => h) (sure_yes (by rfl) (fun w => by go_simp; try with_reducible rfl)) hHeld ?_
              simp only [List.setIfInBounds_toArray, List.set_cons_zero, List.set_cons_succ]
              refine take_at (i := 2) 118 rfl rfl (by kernel_rfl) (by kernel_rfl) (by kernel_rfl) (fun _ _ _ h => h) (sure_yes (by rfl) (fun w => by go_simp; try with_reducible rfl)) hHeld ?_
              simp only [List.setIfInBounds_toArray, List.set_cons_zero, List.set_cons_succ]
              refine take_at (i := 3) 119 rfl rfl (by kernel_rfl) (by kernel_rfl) (by kernel_rfl) (fun _ _ _ h => h) (sure_yes (by rfl) (fun w => by go_simp; try with_reducible rfl)) hHeld ?_
              simp only [List.setIfInBounds_toArray, List.set_cons_zero, List.set_cons_succ]
              refine take_at (i := 4) 120 rfl rfl (by kernel_rfl) (by kernel_rfl) (by kernel_rfl) (fun _ _ _ h => h) (sure_yes (by rfl) (fun w => by go_simp; try with_reducible rfl)) hHeld ?_
              simp only [List.setIfInBounds_toArray, List.set_cons_zero, List.set_cons_succ]
              refine take_at (i := 7) 123 rfl rfl (by kernel_rfl) (by kernel_rfl) (by kernel_rfl) (fun _ _ _ h => h) (sure_yes (by rfl) (fun w => by go_simp; try with_reducible rfl)) hHeld ?_
              simp only [List.setIfInBounds_toArray, List.set_cons_zero, List.set_cons_succ]
              refine take_at (i := 9) 125 rfl rfl (by kernel_rfl) (by kernel_rfl) (by kernel_rfl) (fun _ _ _ h => h) (sure_yes (by rfl) (fun w => by go_simp; try with_reducible rfl)) hHeld ?_
              simp only [List.setIfInBounds_toArray, List.set_cons_zero, List.set_cons_succ]
              refine take_at (i := 10) 126 rfl rfl (by kernel_rfl) (by kernel_rfl) (by kernel_rfl) (fun _ _ _ h => h) (sure_yes (by rfl) (fun w => by go_simp; try with_reducible rfl)) hHeld ?_
              simp only [List.setIfInBounds_toArray, List.set_cons_zero, List.set_cons_succ]
              refine take_at (i := 11) 127 rfl rfl (by kernel_rfl) (by kernel_rfl) (by kernel_rfl) (fun _ _ _ h => h) (sure_yes (by rfl) (fun w => by go_simp; try with_reducible rfl)) hHeld ?_
              simp only [List.setIfInBounds_toArray, List.set_cons_zero, List.set_cons_succ]
              refine take_at (i := 12) 128 rfl rfl (by kernel_rfl) (by kernel_rfl) (by kernel_rfl) (fun _ _ _ h => h) (sure_yes (by rfl) (fun w => by go_simp; try with_reducible rfl)) hHeld ?_
              simp only [List.setIfInBounds_toArray, List.set_cons_zero, List.set_cons_succ]
              refine take_at (i := 5) 121 rfl rfl (by kernel_rfl) (by kernel_rfl) (by kernel_rfl) (fun _ _ _ h => h) (addr_yields (by rfl) 5 (.tmp 120) rfl (ad.add (j * 2)) rfl .u8 (r1 : Int) Tryd.underlying5 (fun w h => cell_under C0.out h)) hHeld ?_
              simp only [List.setIfInBounds_toArray, List.set_cons_zero, List.set_cons_succ]
              refine take_at (i := 6) 122 rfl rfl (by kernel_rfl) (by kernel_rfl) (by kernel_rfl) (fun _ _ _ h => h) (sure_yes (by rfl) (fun w => by go_simp; try with_reducible rfl)) hHeld ?_
              simp only [List.setIfInBounds_toArray, List.set_cons_zero, List.set_cons_succ]
              refine take_at (i := 8) 124 rfl rfl (by kernel_rfl) (by kernel_rfl) (by kernel_rfl) (fun _ _ _ h => h) (sure_yes (by rfl) (fun w => by go_simp; try with_reducible rfl)) hHeld ?_
              simp only [List.setIfInBounds_toArray, List.set_cons_zero, List.set_cons_succ]
              refine take_at (i := 13) 129 rfl rfl (by kernel_rfl) (by kernel_rfl) (by kernel_rfl) (fun _ _ _ h => h) (slice_yields (by rfl) 37 (.tmp 128) rfl ⟨(ad.add (j * 2)).block, (ad.add (j * 2)).off + 1, none⟩ rfl u1o l1 u1c Tryd.underlying37 (fun w h => cell_under C1.out h)) hHeld ?_
              simp only [List.setIfInBounds_toArray, List.set_cons_zero, List.set_cons_succ]
              refine wpAnyH_ready (rs := [14]) (by kernel_rfl) (by simp) ?_
              refine AllReadyH.cons rfl (fun CONT hK => ?_) AllReadyH.nil
              go_simp
              go_at_call 18
              refine (RSG.out _ _ _ (mat_below MG.out hHeld) (dots_below D0.out hHeld)).mono ?_
              rintro e w7 ⟨xw7, rfl, hx, hb⟩
              have NG := Lib.hid hx
              obtain ⟨xow7, xcw7, rfl⟩ := mat_shape hx K (HRL.out _)
              clear hx
              dsimp only
              refine hK.out _ _ (below_next hHeld hb) (fun hHeld => ?_)
              clear hK CONT hb
              refine take_at (i := 15) 17 rfl rfl (by kernel_rfl) (by kernel_rfl) (by kernel_rfl) (fun _ _ _ h => h) (sure_yes (by rfl) (fun w => by go_simp; try with_reducible rfl)) hHeld ?_
              simp only [List.setIfInBounds_toArray, List.set_cons_zero, List.set_cons_succ]
              refine wpAnyH_done (by kernel_rfl) ?_ _
              have B7 := Lib.hid (below_next HB.out hHeld)
              clear hHeld
              go_wp2
              refine ⟨⟨j + 1, KK.out.1, by simp, NG.out, B7.out⟩, ?_⟩
              have := KK.out.2; simp [intOf] <;> omega
            · have q0 : ¬ (j : Int) < (i : Int) := by omega
              obtain rfl : j = i := by omega
              rw [AGN.out] at MG
              have MA_1 := Lib.hid (mat_below MA.out hb)
              have MB_1 := Lib.hid (mat_below MB.out hb)
              have MO_1 := Lib.hid (mat_below MO.out hb)
              have MT_1 := Lib.hid (mat_below MT.out hb)
              have MG_1 := MG
              have B1 := Lib.hid (below_next B6.out hb)
              clear hmg hb hlt hj MA MB MO MT MG HB
              go_wp2_with (first
                | (go_at_call 19; with_reducible refine (MY.out wr _ MA_1.out).mono ?_; rintro e w2 ⟨rfl, hb⟩; have MA_2 := Lib.hid (mat_below MA_1.out hb); have MB_2 := Lib.hid (mat_below MB_1.out hb); have MO_2 := Lib.hid (mat_below MO_1.out hb); have MT_2 := Lib.hid (mat_below MT_1.out hb); have MG_2 := Lib.hid (mat_below MG_1.out hb); have B2 := Lib.hid (below_next B1.out hb); clear hb)
                | (go_at_call 12; with_reducible refine (ES.out w2 _ _ MA_2.out MB_2.out).mono ?_; rintro e w3 ⟨rfl, hb⟩; have MA_3 := Lib.hid (mat_below MA_2.out hb); have MO_3 := Lib.hid (mat_below MO_2.out hb); have MT_3 := Lib.hid (mat_below MT_2.out hb); have MG_3 := Lib.hid (mat_below MG_2.out hb); have B3 := Lib.hid (below_next B2.out hb); clear hb)
                | (go_at_call 12; with_reducible refine (ES.out w3 _ _ MA_3.out MG_3.out).mono ?_; rintro e w4 ⟨rfl, hb⟩; have MA_4 := Lib.hid (mat_below MA_3.out hb); have MO_4 := Lib.hid (mat_below MO_3.out hb); have MT_4 := Lib.hid (mat_below MT_3.out hb); have B4 := Lib.hid (below_next B3.out hb); clear hb)
                | (go_at_call 13; with_reducible refine (J1.out w4 _ _ MO_4.out MT_4.out).mono ?_; rintro e w5 ⟨x5, rfl, hx, hb⟩; have MJ_5 := Lib.hid hx; obtain ⟨xo5, xc5, rfl⟩ := mat_shape hx K HAL.out; have MA_5 := Lib.hid (mat_below MA_4.out hb); have MO_5 := Lib.hid (mat_below MO_4.out hb); have MT_5 := Lib.hid (mat_below MT_4.out hb); have B5 := Lib.hid (below_next B4.out hb); clear hb hx)
                | (go_at_call 12; with_reducible refine (ES.out w5 _ _ MJ_5.out MA_5.out).mono ?_; rintro e w6 ⟨rfl, hb⟩; have MA_6 := Lib.hid (mat_below MA_5.out hb); have MO_6 := Lib.hid (mat_below MO_5.out hb); have MT_6 := Lib.hid (mat_below MT_5.out hb); have B6 := Lib.hid (below_next B5.out hb); clear hb)
                | (go_at_call 13; with_reducible refine (J2.out w6 _ _ MT_6.out MO_6.out).mono ?_; rintro e w7 ⟨x7, rfl, hx, hb⟩; have MK_7 := Lib.hid hx; obtain ⟨xo7, xc7, rfl⟩ := mat_shape hx K HAL.out; have MA_7 := Lib.hid (mat_below MA_6.out hb); have B7 := Lib.hid (below_next B6.out hb); clear hb hx)
                | (go_at_call 12; with_reducible refine (ES.out w7 _ _ MK_7.out MA_7.out).mono ?_; rintro e w8 ⟨rfl, hb⟩; have B8 := Lib.hid (below_next B7.out hb); clear hb))
              go_ret
              exact ⟨rfl, B8.out⟩
end Go.Proofs.YtcnjgdnokiindaaDoor
