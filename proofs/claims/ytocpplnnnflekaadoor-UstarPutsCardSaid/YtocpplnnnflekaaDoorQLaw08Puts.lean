/-
The walk of the statement that any files are put into an archive as the document has it.
-/
import Derived.Test.YtocpplnnnflekaaDoorQLaw08Back
import Derived.Test.YtocpplnnnflekaaDoorPk6
namespace Go.Proofs.YtocpplnnnflekaaDoor
open Go.RowKit
set_option maxRecDepth 100000 in
theorem append_int {P : Program} {w : World} {ops : Array Oper} {rest : List Oper} {o : Oper} {a : Act} {Q : Exit → Act → World → Prop} (hgd : o.guard = none) (s x : Operand) (t : TypeId)
    (ho : o.op = .call { callee := .builtin .append, args := #[s, x], argTypes := #[t, t] })
    (base : Nat) (e : TypeId) (i : TypeInfo) (ht : P.underlying t = some (.slice e)) (hi : P.info? e = some i) (hz : i.zero = some (.int .i64 0)) (hsize : i.size = 1) (hby : i.bytes = 8)
    (v : Value) (zs : List Int) (z : Int) (hs : a.eval s = v) (hown : w.ownsRow base e 1 v zs.length (intsC zs)) (ad : Addr) (c : Nat) (hx : a.eval x = .slice (some ad) 1 c) (hc : w.cell? ad = some (.int .i64 z))
    (hlen : zs.length + 1 ≤ 1000000) (hbase : base ≤ w.heap.size)
    (h : ∀ v' w', w'.ownsRow base e 1 v' (zs ++ [z]).length (intsC (zs ++ [z])) → w.grownBy w' v.ownBlock → wpList P ops Q rest (a.put o.dst v') w') : wpList P ops Q (o :: rest) a w := by
  have hadd : ad.add 0 = ad := by unfold Addr.add; split <;> simp_all
  refine wpList_append_own w hgd s x t ho base e i (.int .i64 0) 1 8 ht hi hz hsize hby rfl (by decide) v zs.length (intsC zs) hs hown ad 1 c (intsC [z]) hx (by simp [intsC]) (fun j u hj => ?_) (fun u hu => ?_)
    (by unfold maxLen; omega) (by omega) hbase fun v' w' h1 h2 _ => h v' w' (by rw [show intsC (zs ++ [z]) = intsC zs ++ intsC [z] from by simp [intsC], List.length_append]; exact h1) h2
  · match j, hj with
    | 0, hj =>
      have e : u = .int .i64 z := by simpa [intsC] using hj.symm
      rw [hadd, e]; exact hc
  · simp only [intsC, List.map_cons, List.map_nil, List.mem_singleton] at hu
    subst hu; rfl
def sizesL (l : List F8) : List Int := l.map fun f => (f.2.length : Int)
set_option maxRecDepth 100000 in
theorem sizes_next {l : List F8} {k : Nat} {f : F8} (h : l[k]? = some f) : sizesL (l.take (k + 1)) = sizesL (l.take k) ++ [(f.2.length : Int)] := by
  obtain ⟨hk, rfl⟩ := List.getElem?_eq_some_iff.1 h
  rw [List.take_succ_eq_append_getElem hk, sizesL, List.map_append]; rfl
set_option maxRecDepth 100000 in
theorem infoInt8l : (Tryd.prog.info? 3).map (fun i => (i.zero, i.size, i.bytes)) = some (some (.int .i64 0), 1, 8) := by kernel_rfl
set_option maxRecDepth 100000 in
set_option maxHeartbeats 8000000 in
theorem ustarPuts_walk (F : UstarFace) (G : SizeFace) (w : World) (v : Value) (l : List F8) (hv : HasFiles w v l) (hp : ∀ f ∈ l, f.1.length < 1152921504606846976) (hd : ∀ f ∈ l, f.2.length ≤ 140737488355328) (hl : l.length < 4611686018427387904) :
    Calls Tryd.prog 3 #[v] w fun e w' => e = .returned (.bool true) ∧ Below w.heap.size w w' := by
  obtain ⟨i0, hi, hz0, hz1, hz2⟩ := info_parts infoInt8l
  have AW := Lib.hid (awake8_any F)
  have SM := Lib.hid (fun w hv => small_any w v l hv hd hl)
  have HV := Lib.hid hv
  have HPL := Lib.hid hp
  obtain ⟨n, hn⟩ : ∃ n, n = l.length := ⟨_, rfl⟩
  obtain ⟨ao, cap, rfl⟩ := files_shape hv n hn
  have HN := Lib.hid hn
  clear hv hd hl hp hn
  cases hs : smallB l with
  | false =>
    rw [hs] at SM
    clear hs
    go_enter Tryd.func3, Tryd.ntmps3
    go_wp2_with (first
      | (go_at_call 10; refine (AW.out _).mono ?_; rintro e w1 ⟨rfl, hb⟩; have B1 := Lib.hid hb; clear hb)
      | (go_at_call 11; refine (SM.out _ (files_below HV.out B1.out)).mono ?_; rintro e w2 ⟨rfl, rfl⟩))
    go_ret
    exact ⟨rfl, B1.out⟩
  | true =>
    rw [hs] at SM
    have hsm := small_of hs
    have HSM := Lib.hid hsm
    have P1 := Lib.hid (fun w hv => F.put w (.slice ao n cap) l hv HPL.out (by omega) (by omega))
    have P2 := Lib.hid (fun w hv => refPut8_any w (.slice ao n cap) l hv (fun f hf => by have := HPL.out f hf; omega) (by omega) (by omega))
    have hzs : (sizesL l).length ≤ 40 ∧ ∀ z ∈ sizesL l, 0 ≤ z ∧ z ≤ 20000 := by
      refine ⟨by rw [sizesL, List.length_map]; omega, fun z hz => ?_⟩
      obtain ⟨f, hf, rfl⟩ := List.mem_map.1 hz
      have := total_at hf
      omega
    have S1 := Lib.hid (fun w v hv => G.size w v (sizesL l) hv hzs.1 hzs.2)
    have S2 := Lib.hid (fun w v hv => refSize_any w v (sizesL l) hv hzs.1 hzs.2)
    have HPS := Lib.hid (fun h => putU_len (l := l) h)
    have HNL := Lib.hid (show n ≤ 40 by rw [HN.out]; exact hsm.1)
    clear hs hsm hzs
    go_enter Tryd.func3, Tryd.ntmps3
    go_wp2_with (first
      | (go_at_call 10; refine (AW.out _).mono ?_; rintro e w1 ⟨rfl, hb⟩; have B1 := Lib.hid hb; clear hb)
      | (go_at_call 11; refine (SM.out _ (files_below HV.out B1.out)).mono ?_; rintro e w2 ⟨rfl, rfl⟩)
      | (go_at_call 12; refine (P1.out _ (files_below HV.out B1.out)).mono ?_; rintro e w3 ⟨x, rfl, ⟨hx, -⟩, hb⟩; have HX := Lib.hid hx; have B3 := Lib.hid (below_next B1.out hb); clear hx hb)
      | (go_at_call 13; refine (P2.out _ (files_below HV.out B3.out)).mono ?_; rintro e w4 ⟨y, rfl, hy, hb⟩; have HX4 := Lib.hid (text_keep HX.out hb); have HY := Lib.hid hy; have B4 := Lib.hid (below_next B3.out hb); clear hy hb))
    go_loopw [8, 9] (fun vs i wr => ∃ k : Nat, k ≤ n ∧ i = .int .i64 k ∧ wr.ownsRow w4.heap.size 3 1 vs (sizesL (l.take k)).length (intsC (sizesL (l.take k))) ∧ Below w4.heap.size w4 wr) (fun _ i _ => n - (intOf i).toNat)
    case atStart => exact ⟨0, by omega, rfl, ⟨rfl, .inl ⟨rfl, rfl⟩⟩, Below.refl _ _⟩
    case round =>
      obtain ⟨k, hk, rfl, ho, hb⟩ := hrel
      obtain ⟨vo, vcap, rfl⟩ := own_slice ho
      have HO := Lib.hid ho
      have HB := Lib.hid hb
      clear ho hb
      by_cases hlt : k < n
      · obtain ⟨f, hf⟩ : ∃ f, l[k]? = some f := ⟨l[k]'(by have := HN.out; omega), List.getElem?_eq_getElem _⟩
        obtain ⟨ad, cap', u, e, -, c1, ht⟩ := files_at (files_below HV.out (below_next B4.out HB.out)) n k HN.out.symm f hf
        cases e
        obtain ⟨ao', cu, rfl⟩ := text_len ht f.2.length rfl
        obtain ⟨m, hm⟩ : ∃ m, m = f.2.length := ⟨_, rfl⟩
        have HE := Lib.hid (sizes_next hf)
        rw [← hm] at c1
        have HM := Lib.hid hm
        have HK := Lib.hid hlt
        have hkl : (sizesL (l.take k)).length = k := by rw [sizesL, List.length_map, List.length_take, ← HN.out]; omega
        have HKL := Lib.hid hkl
        have q0 : (k : Int) < (n : Int) := by omega
        have hn40 := HNL.out
        clear hm ht hf hlt
        go_wp2_with (first
          | (at_builtin; refine append_int rfl (.tmp 32) (.tmp 39) 31 rfl w4.heap.size 3 i0 Tryd.underlying31 hi hz0 hz1 hz2 (.slice vo (sizesL (l.take k)).length vcap) (sizesL (l.take k)) (m : Int) rfl (HO.out.alloc _) ⟨wr.heap.size, 0, none⟩ 1 rfl (by rw [cell_of_row _ _ 0 _ _ _ (heap_last wr _)]; rfl) (by have := HKL.out; have := HNL.out; omega) (by have := HB.out.size; simp; omega) ?_; intro v1 w1 ho hg; have HO1 := Lib.hid ho; have HB1 := Lib.hid (below_grown (HB.out.alloc HB.out.size _) hg (by have := HB.out.size; simp; omega) (fun j hj => (HO.out.lt j hj).1)); clear ho hg))
        go_roundw
        case rel => exact ⟨k + 1, HK.out, by go_num, by rw [HE.out, ← HM.out]; exact HO1.out, HB1.out⟩
        case measure => have := HK.out; simp [intOf]; omega
      · obtain rfl : k = n := by omega
        have HTK := Lib.hid (show l.take k = l from List.take_of_length_le (by rw [← HN.out]; omega))
        rw [HTK.out] at HO
        have HS := Lib.hid (ints_of_own HO.out)
        have HX5 := Lib.hid (text_keep HX4.out HB.out)
        have HY5 := Lib.hid (text_keep HY.out HB.out)
        have B5 := Lib.hid (below_next B4.out HB.out)
        rw [HTK.out]
        clear HX4 HY HO hlt HX
        obtain ⟨E, hE⟩ : ∃ E, putUErr l = E := ⟨_, rfl⟩
        obtain ⟨X, hX⟩ : ∃ X, putU l = X := ⟨_, rfl⟩
        rw [hX] at HX5 HY5
        rw [hE, hX] at HPS
        obtain ⟨m, hm⟩ : ∃ m, X.length = m := ⟨_, rfl⟩
        have HM := Lib.hid hm
        obtain ⟨N, hN⟩ : ∃ N, sizeU (sizesL l) = N := ⟨_, rfl⟩
        have HMN := Lib.hid (show E = 0 → (m : Int) = N from fun h => by rw [← hm, ← hN]; exact HPS.out h)
        rw [hN] at S1 S2
        obtain ⟨xo, xc, rfl⟩ := text_len HX5.out m HM.out
        have hlX : (str X).toList = X := str_toList _
        rw [hE]
        clear hE hX hm hN
        generalize (sizesL l).length = sn at *
        by_cases h0 : E = 0
        · have hmn := HMN.out h0
          subst h0
          go_wp2_with (first
            | (go_at_call 14; refine (S1.out _ _ HS.out).mono ?_; rintro e w6 ⟨rfl, hb⟩; have HS6 := Lib.hid (ints_below HS.out hb); have B6 := Lib.hid (below_next B5.out hb); have cv1 := conv_text Tryd.underlying25 Tryd.underlying5 Tryd.underlying9 (text_keep HX5.out hb); have cv2 := conv_text Tryd.underlying25 Tryd.underlying5 Tryd.underlying9 (text_keep HY5.out hb); clear hb)
            | (go_at_call 15; refine (S2.out _ _ HS6.out).mono ?_; rintro e w7 ⟨rfl, hb⟩; have B7 := Lib.hid (below_next B6.out hb); clear hb))
          go_ret
          exact ⟨rfl, B7.out⟩
        · have tE : (E != 0) = true := bne_iff_ne.2 h0
          clear h0
          go_wp2_with (first
            | (go_at_call 14; refine (S1.out _ _ HS.out).mono ?_; rintro e w6 ⟨rfl, hb⟩; have HS6 := Lib.hid (ints_below HS.out hb); have B6 := Lib.hid (below_next B5.out hb); have cv1 := conv_text Tryd.underlying25 Tryd.underlying5 Tryd.underlying9 (text_keep HX5.out hb); have cv2 := conv_text Tryd.underlying25 Tryd.underlying5 Tryd.underlying9 (text_keep HY5.out hb); clear hb)
            | (go_at_call 15; refine (S2.out _ _ HS6.out).mono ?_; rintro e w7 ⟨rfl, hb⟩; have B7 := Lib.hid (below_next B6.out hb); clear hb))
          go_ret
          exact ⟨rfl, B7.out⟩
end Go.Proofs.YtocpplnnnflekaaDoor
