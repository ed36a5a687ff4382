/-
The walk of the statement that an archive of two lists of files is the one's, without its end, and the other one's.
-/
import Derived.Test.YtocpplnnnflekaaDoorQLaw08Cuts
import Derived.Test.YtocpplnnnflekaaDoorPk6
namespace Go.Proofs.YtocpplnnnflekaaDoor
open Go.RowKit
set_option maxRecDepth 100000 in
/-- Files appended to a slice of files of the call's own. -/
theorem append_files {P : Program} {w w0 : World} {ops : Array Oper} {rest : List Oper} {o : Oper} {a : Act} {Q : Exit → Act → World → Prop} (hgd : o.guard = none) (s x : Operand) (t : TypeId)
    (ho : o.op = .call { callee := .builtin .append, args := #[s, x], argTypes := #[t, t] })
    (base : Nat) (e : TypeId) (i : TypeInfo) (ht : P.underlying t = some (.slice e)) (hi : P.info? e = some i) (hz : (i.zero.map (·.cells.size), i.size, i.bytes) = (some 2, 2, 40))
    (v : Value) (us : List (F8 × Value)) (hs : a.eval s = v) (hown : w.ownsRow base e 2 v us.length (filesC us)) (vx : Value) (l : List F8) (hx : a.eval x = vx) (hl : HasFiles w0 vx l) (hb : Below w0.heap.size w0 w)
    (hlen : us.length + l.length ≤ 1000000) (hbase : base ≤ w.heap.size)
    (h : ∀ v' w' us', us'.map (·.1) = l → (∀ y ∈ us', HasText w0 y.2 y.1.2) → w'.ownsRow base e 2 v' (us ++ us').length (filesC (us ++ us')) → w.grownBy w' v.ownBlock → wpList P ops Q rest (a.put o.dst v') w') : wpList P ops Q (o :: rest) a w := by
  simp only [Prod.mk.injEq] at hz
  obtain ⟨hz1, hz2, hz3⟩ := hz
  cases hzz : i.zero with
  | none => rw [hzz] at hz1; cases hz1
  | some z =>
    rw [hzz] at hz1
    simp only [Option.map_some, Option.some.injEq] at hz1
    obtain ⟨us', h1, h2, ao, cap, rfl, hnil, hc⟩ := hl
    have hul : us'.length = l.length := by rw [← h1, List.length_map]
    cases ao with
    | none =>
      obtain ⟨rfl, rfl⟩ := hnil rfl
      exact wpList_append_own_none hgd s x t ho base e i 2 ht hi v us.length (filesC us) hs hown hx (h v w [] h1 h2 (by simpa using hown) ⟨rfl, rfl, rfl, Nat.le_refl _, fun _ _ _ => rfl⟩)
    | some ad =>
      refine wpList_append_own w hgd s x t ho base e i z 2 40 ht hi hzz hz2 hz3 hz1 (by decide) v us.length (filesC us) hs hown ad us'.length cap (filesC us') hx (filesC_length us') (fun j u hj => cell_held ((hc ad rfl).2 j u hj) hb) (filesC_one h2)
        (by unfold maxLen; omega) (by omega) hbase fun v' w' k1 k2 _ => h v' w' us' h1 h2 (by rw [filesC_append, List.length_append]; exact k1) k2
set_option maxRecDepth 100000 in
/-- An empty slice of files that was just written out. -/
theorem files_own_nil (w : World) (e : TypeId) (base : Nat) (hb : base ≤ w.heap.size) : (w.alloc (.cells #[] e (0, 0))).ownsRow base e 2 (.slice (some ⟨w.heap.size, 0, none⟩) 0 0) ([] : List (F8 × Value)).length (filesC []) :=
  ⟨rfl, .inr ⟨w.heap.size, 0, #[], rfl, hb, heap_last _ _, Nat.le_refl 0, by decide, rfl, rfl⟩⟩
set_option maxRecDepth 100000 in
set_option maxHeartbeats 8000000 in
theorem ustarJoins_walk (F : UstarFace) (w : World) (v x : Value) (l m : List F8) (hv : HasFiles w v l) (hp : ∀ f ∈ l, f.1.length < 1152921504606846976) (hd : ∀ f ∈ l, f.2.length ≤ 140737488355328) (hl : l.length < 4611686018427387904)
    (hx : HasFiles w x m) (hpm : ∀ f ∈ m, f.1.length < 1152921504606846976) (hdm : ∀ f ∈ m, f.2.length ≤ 140737488355328) (hlm : m.length < 4611686018427387904) :
    Calls Tryd.prog 9 #[v, x] w fun e w' => e = .returned (.bool true) ∧ Below w.heap.size w w' := by
  obtain ⟨i0, hi, hz⟩ : ∃ i0, Tryd.prog.info? 33 = some i0 ∧ (i0.zero.map (·.cells.size), i0.size, i0.bytes) = (some 2, 2, 40) := by
    cases h : Tryd.prog.info? 33 with
    | none => have := info_file; rw [h] at this; cases this
    | some i => exact ⟨i, rfl, by have := info_file; rw [h] at this; simpa using this⟩
  have AW := Lib.hid (awake8_any F)
  have SM := Lib.hid (fun w hv => small_any w v l hv hd hl)
  have HV := Lib.hid hv
  have HPL := Lib.hid hp
  obtain ⟨n, hn⟩ : ∃ n, n = l.length := ⟨_, rfl⟩
  obtain ⟨ao, cap, rfl⟩ := files_shape hv n hn
  have HN := Lib.hid hn
  clear hv hd hl hp hn
  have SM2 := Lib.hid (fun w hv => small_any w x m hv hdm hlm)
  have HX := Lib.hid hx
  have HPM := Lib.hid hpm
  obtain ⟨n2, hn2⟩ : ∃ n2, n2 = m.length := ⟨_, rfl⟩
  obtain ⟨ao2, cap2, rfl⟩ := files_shape hx n2 hn2
  clear hx hdm hlm hpm hn2
  cases hs : smallB l with
  | false =>
    rw [hs] at SM
    clear hs
    go_enter Tryd.func9, Tryd.ntmps9
    go_wp2_with (first
      | (go_at_call 10; refine (AW.out _).mono ?_; rintro e w1 ⟨rfl, hb⟩; have B1 := Lib.hid hb; clear hb)
      | (go_at_call 11; refine (SM.out _ (files_below HV.out B1.out)).mono ?_; rintro e w2 ⟨rfl, rfl⟩))
    go_ret
    exact ⟨rfl, B1.out⟩
  | true =>
    rw [hs] at SM
    cases hs2 : smallB m with
    | false =>
      rw [hs2] at SM2
      clear hs hs2
      go_enter Tryd.func9, Tryd.ntmps9
      go_wp2_with (first
        | (go_at_call 10; refine (AW.out _).mono ?_; rintro e w1 ⟨rfl, hb⟩; have B1 := Lib.hid hb; clear hb)
        | (go_at_call 11; with_reducible refine (SM.out _ (files_below HV.out B1.out)).mono ?_; rintro e w2 ⟨rfl, rfl⟩)
        | (go_at_call 11; with_reducible refine (SM2.out _ (files_below HX.out B1.out)).mono ?_; rintro e w2 ⟨rfl, rfl⟩))
      go_ret
      exact ⟨rfl, B1.out⟩
    | true =>
      rw [hs2] at SM2
      have hsm := small_of hs
      have hsm2 := small_of hs2
      have HSM := Lib.hid (And.intro hsm hsm2)
      have P1 := Lib.hid (fun w hv => F.put w (.slice ao n cap) l hv HPL.out (by omega) (by omega))
      have P2 := Lib.hid (fun w hv => F.put w (.slice ao2 n2 cap2) m hv HPM.out (by omega) (by omega))
      have P3 := Lib.hid (fun w v hv => F.put w v (l ++ m) hv (fun f hf => (List.mem_append.1 hf).elim (HPL.out f) (HPM.out f)) (by rw [List.length_append]; omega) (by rw [totalB_append]; omega))
      obtain ⟨j1, j2⟩ := joins_err hsm hsm2
      have HJ := Lib.hid (And.intro j1 j2)
      have HPUT := Lib.hid (fun h h1 h2 => joins_put (l := l) (m := m) h h1 h2)
      have HLE := Lib.hid (And.intro (putU_le hsm) (putU_le hsm2))
      clear hs hs2 hsm hsm2 j1 j2
      obtain ⟨E1, hE1⟩ : ∃ E, putUErr l = E := ⟨_, rfl⟩
      obtain ⟨E2, hE2⟩ : ∃ E, putUErr m = E := ⟨_, rfl⟩
      obtain ⟨E3, hE3⟩ : ∃ E, putUErr (l ++ m) = E := ⟨_, rfl⟩
      obtain ⟨A, hA⟩ : ∃ A, putU l = A := ⟨_, rfl⟩
      obtain ⟨B, hB⟩ : ∃ B, putU m = B := ⟨_, rfl⟩
      obtain ⟨C, hC⟩ : ∃ C, putU (l ++ m) = C := ⟨_, rfl⟩
      rw [hE1, hA] at P1
      rw [hE2, hB] at P2
      rw [hE3, hC] at P3
      rw [hE1, hE2, hE3] at HJ HPUT
      rw [hA, hB] at HLE
      rw [hA, hB, hC] at HPUT
      clear hE1 hE2 hE3 hA hB hC
      obtain ⟨La, hLa⟩ : ∃ La, A.length = La := ⟨_, rfl⟩
      have HLA := Lib.hid hLa
      clear hLa
      go_enter Tryd.func9, Tryd.ntmps9
      go_upto_region 4 with (first
        | (go_at_call 10; refine (AW.out _).mono ?_; rintro e w1 ⟨rfl, hb⟩; have B1 := Lib.hid hb; clear hb)
        | (go_at_call 11; with_reducible refine (SM.out _ (files_below HV.out B1.out)).mono ?_; rintro e w2 ⟨rfl, rfl⟩)
        | (go_at_call 11; with_reducible refine (SM2.out _ (files_below HX.out B1.out)).mono ?_; rintro e w2 ⟨rfl, rfl⟩))
      go_upto_region 5 with (first | (go_at_call 12; refine (P1.out _ (files_below HV.out B1.out)).mono ?_; rintro e w3 ⟨xa, rfl, ⟨hx, -⟩, hb⟩; obtain ⟨ra, ca, rfl⟩ := text_len hx La HLA.out; have TA := Lib.hid hx; have B3 := Lib.hid (below_next B1.out hb); clear hx hb))
      go_upto_region 6 with (first | (go_at_call 12; refine (P2.out _ (files_below HX.out B3.out)).mono ?_; rintro e w4 ⟨xb, rfl, ⟨hx, -⟩, hb⟩; have TB := Lib.hid hx; have TA4 := Lib.hid (text_keep TA.out hb); have B4 := Lib.hid (below_next B3.out hb); clear hx hb))
      have HV4 := Lib.hid (files_below HV.out B4.out)
      have HX4 := Lib.hid (files_below HX.out B4.out)
      go_upto_region 7 with (first
        | (at_builtin; refine append_files rfl (.tmp 33) (.tmp 34) 22 rfl w4.heap.size 33 i0 Tryd.underlying22 hi hz _ [] rfl (files_own_nil w4 33 w4.heap.size (Nat.le_refl _)) _ l rfl HV4.out ((Below.refl _ _).alloc (Nat.le_refl _) _) (by have := HSM.out; simp; omega) (by simp) ?_; intro v6 w6 us1 hu1 ht1 ho6 hg6; rw [List.nil_append] at ho6; have HO6 := Lib.hid ho6; have HU1 := Lib.hid (And.intro hu1 ht1); have HB6 := Lib.hid (below_grown ((Below.refl w4.heap.size w4).alloc (Nat.le_refl _) _) hg6 (by simp) (fun k hk => ((files_own_nil w4 33 w4.heap.size (Nat.le_refl _)).lt k hk).1)); clear hu1 ht1 ho6 hg6)
        | (at_builtin; refine append_files rfl (.tmp 35) (.tmp 36) 22 rfl w4.heap.size 33 i0 Tryd.underlying22 hi hz _ us1 rfl HO6.out _ m rfl HX4.out HB6.out (by have h1 := HSM.out; have h2 := congrArg List.length HU1.out.1; rw [List.length_map] at h2; omega) HB6.out.size ?_; intro v7 w7 us2 hu2 ht2 ho7 hg7; have HB7 := Lib.hid (below_grown HB6.out hg7 HB6.out.size (fun k hk => (HO6.out.lt k hk).1)); have HF7 := Lib.hid (show HasFiles w7 v7 (l ++ m) from (by have h := files_of_own ho7 (fun y hy => text_keep ((List.mem_append.1 hy).elim (HU1.out.2 y) (ht2 y)) HB7.out); rw [List.map_append, HU1.out.1, hu2] at h; exact h)); have B7 := Lib.hid (below_next B4.out HB7.out); have TA7 := Lib.hid (text_keep TA4.out HB7.out); have TB7 := Lib.hid (text_keep TB.out HB7.out); clear hu2 ht2 ho7 hg7)
        | (go_at_call 12; refine (P3.out _ _ HF7.out).mono ?_; rintro e w8 ⟨xc, rfl, ⟨hx, -⟩, hb⟩; have TC := Lib.hid hx; have TA8 := Lib.hid (text_keep TA7.out hb); have TB8 := Lib.hid (text_keep TB7.out hb); have B8 := Lib.hid (below_next B7.out hb); clear hx hb))
      by_cases h12 : E1 = 0 ∧ E2 = 0
      · obtain ⟨rfl, rfl⟩ := h12
        by_cases h3 : E3 = 0
        · subst h3
          obtain ⟨hge, hC⟩ := HPUT.out rfl rfl rfl
          rw [HLA.out] at hge hC
          obtain ⟨K, hK⟩ : ∃ K, A.take (La - 1024) = K := ⟨_, rfl⟩
          obtain ⟨ka, hka⟩ : ∃ ka, ka = La - 1024 := ⟨_, rfl⟩
          have TK := Lib.hid (text_take TA8.out (La - 1024) (by rw [HLA.out]; omega))
          rw [hK, ← hka] at TK
          rw [hK] at hC
          have hkl : K.length + B.length ≤ 200000 := by have h1 := congrArg List.length hK; rw [List.length_take] at h1; have h2 := HLE.out; omega
          have a1 : ∀ w, (Op.stringOp .add (str K) (str B)).run Tryd.prog w = .ok (.string (str C)) w := fun w => by rw [hC]; exact add_str K B (by omega) w
          have ew1 : wrap64 ((La : Int) - 1024) = (ka : Int) := by rw [wrap64]; have := HLE.out; have := HLA.out; omega
          have ew2 : IntKind.i64.wrap ((La : Int) - 1024) = (ka : Int) := (by rw [IntKind.wrap_i64]; have := HLE.out; have := HLA.out; omega)
          have qc : (ka : Int) ≤ (ca : Int) := by have h1 := (text_cap TA8.out).2; clear ew1 ew2; omega
          have q0 : ¬ (La : Int) < 1024 := by clear ew1 ew2; omega
          have hlC : (str C).toList = C := str_toList _
          have cva := fun i => conv_text Tryd.underlying25 Tryd.underlying5 Tryd.underlying9 (text_keep TK.out (below_draws (Below.refl w8.heap.size w8) i))
          have cvb := fun i => conv_text Tryd.underlying25 Tryd.underlying5 Tryd.underlying9 (text_keep TB8.out (below_draws (Below.refl w8.heap.size w8) i))
          have cvc := fun i => conv_text Tryd.underlying25 Tryd.underlying5 Tryd.underlying9 (text_keep TC.out (below_draws (Below.refl w8.heap.size w8) i))
          clear hge hC hK hka hkl
          go_wp2
          go_quiet (fail)
          go_wp2
          go_ret
          exact ⟨rfl, below_draws B8.out _⟩
        · have h7 := (HJ.out.2 rfl rfl).resolve_left h3
          subst h7
          clear h3
          go_wp2
          go_ret
          exact ⟨rfl, B8.out⟩
      · have h3 : (E3 != 0) = true := bne_iff_ne.2 (fun h => h12 (HJ.out.1 h))
        by_cases h1 : E1 = 0
        · have h2 : (E2 != 0) = true := bne_iff_ne.2 (fun h => h12 ⟨h1, h⟩)
          subst h1
          clear h12
          go_wp2
          go_ret
          exact ⟨rfl, B8.out⟩
        · have h2 : (E1 != 0) = true := bne_iff_ne.2 h1
          clear h12 h1
          go_wp2
          go_ret
          exact ⟨rfl, B8.out⟩
end Go.Proofs.YtocpplnnnflekaaDoor
