/-
Texts that all claims of this seat share, part 14: Ref14First, Ref14View, StableOne, Law14Shows.
-/
import Derived.Test.YtppmbdpfledejaaGreatDoorPk13
namespace Go.Proofs.YtppmbdpfledejaaGreatDoor
open Go.RowKit
theorem first_no {l : List Ev} {e f : Ev} (hm : f ∈ l) (hp : putE f = true) (hh : hideE f e = true) : firstE l e = false := by
  cases h : firstE l e with
  | false => rfl
  | true =>
    unfold firstE at h
    have h2 := List.all_eq_true.1 h f (List.mem_filter.2 ⟨hm, hp⟩)
    rw [hh] at h2
    exact absurd h2 (by simp)
theorem first_all {l : List Ev} {e : Ev} (h : ∀ f ∈ l, putE f = true → hideE f e = false) : firstE l e = true := by
  unfold firstE
  refine List.all_eq_true.2 fun f hf => ?_
  obtain ⟨hf, hp⟩ := List.mem_filter.1 hf
  rw [h f hf hp]; rfl
theorem seen_step {l : List Ev} {i : Nat} {f : Ev} {e : Ev} (hx : l[i]? = some f) (H : ∀ g ∈ l.take i, putE g = true → hideE g e = false) (h : putE f = true → hideE f e = false) : ∀ g ∈ l.take (i + 1), putE g = true → hideE g e = false := by
  intro g hg hp
  rw [List.take_add_one, hx] at hg
  rcases List.mem_append.1 hg with hg | hg
  · exact H g hg hp
  · have : g = f := by simpa using hg
    subst this; exact h hp
set_option linter.unusedSimpArgs false in
set_option maxRecDepth 100000 in
set_option maxHeartbeats 16000000 in
theorem refFirst_any (us : List (Ev × Value)) (hl : us.length ≤ 20000) (v u : Value) (e : Ev) (he : e.path.length < 1152921504606846976) (w : World) (hv : HoldsU w v us) (hd : DepsU w us) (hu : HasDots w u e.deps) : Calls Tryz.prog 44 #[v, .agg (evC e u)] w fun x w' => x = .returned (.bool (firstE (us.map (·.1)) e)) ∧ Below w.heap.size w w' := by
  have h0 := (Below.refl w.heap.size w).alloc (Nat.le_refl _) (.cells (evC e u) 92 (0, 0))
  have E0 := Lib.hid (box_ev w 92 e u)
  have B0 := Lib.hid h0
  have HV := Lib.hid (holdsU_below hv h0)
  have HD := Lib.hid (depsU_below hd h0)
  have HPL := Lib.hid he
  obtain ⟨n, hn⟩ : ∃ n, n = us.length := ⟨_, rfl⟩
  have hn5 : n ≤ 20000 := by omega
  have HN := Lib.hid hn
  obtain ⟨ao, cap, hvs⟩ := holdsU_shape hv n hn
  obtain ⟨uo, uc, hus⟩ := dots_shape hu _ rfl
  obtain ⟨un, hun⟩ : ∃ m, m = e.deps.length := ⟨_, rfl⟩
  rw [← hun] at hus
  subst hvs
  subst hus
  clear hl he hv hd hu h0 hn hun
  go_enter Tryz.func44, Tryz.ntmps44
  go_upto_region 1 with fail
  generalize w.alloc (.cells (evC e (.slice uo un uc)) 92 (0, 0)) = W0 at *
  have ENC := Lib.hid (show ∀ vs w, (callFunc 62 vs).run Tryz.prog w = .ok (.enter 62 vs) w from (enters_of Tryz.func62 (by kernel_rfl) rfl))
  have ENU := Lib.hid (show ∀ vs w, (callFunc 55 vs).run Tryz.prog w = .ok (.enter 55 vs) w from (enters_of Tryz.func55 (by kernel_rfl) rfl))
  have C0 := Lib.hid (evAt_cells E0.out)
  go_wp2
  go_loopw [5] (fun c wr => ∃ i : Nat, i ≤ n ∧ c = .int .i64 (i : Int) ∧ (∀ g ∈ (us.map (·.1)).take i, putE g = true → hideE g e = false) ∧ Below W0.heap.size W0 wr) (fun c _ => n - (intOf c).toNat)
  case atStart => exact ⟨0, Nat.zero_le _, rfl, (fun g h => by simp at h), Below.refl _ _⟩
  case round =>
    obtain ⟨i, hi, rfl, hno, hb⟩ := hrel
    have HNO := Lib.hid hno
    have HB := Lib.hid hb
    clear hno hb
    by_cases hil : i < n
    · have q0 : (i : Int) < (n : Int) := by omega
      have hi1 : i + 1 ≤ n := hil
      obtain ⟨x, hx⟩ : ∃ x, us[i]? = some x := ⟨_, List.getElem?_eq_getElem (by have := HN.out; omega)⟩
      obtain ⟨ad, cap', e1, hcx⟩ := holdsU_at (holdsU_below HV.out HB.out) n i HN.out.symm x hx
      cases e1
      have hux := HD.out x (List.mem_of_getElem? hx)
      have HEX := Lib.hid (fst_atM hx)
      obtain ⟨ye, yv⟩ := x
      dsimp only at hcx hux HEX
      obtain ⟨yo, yc, rfl⟩ := dots_shape hux ye.deps.length rfl
      obtain ⟨yn, hyn⟩ : ∃ m, m = ye.deps.length := ⟨_, rfl⟩
      rw [← hyn] at hcx
      have HC := Lib.hid hcx
      have HFM := Lib.hid (List.mem_of_getElem? HEX.out)
      clear hx hcx hux hi hyn
      go_upto_region 5 with (first
        | (refine load_evA_on (by rfl) 92 (.tmp 15) rfl (ad.add (i * 38)) rfl Tryz.underlying92 evSize HC.out ?_)
        | (refine store_new rfl 92 (.tmp 6) (.tmp 16) rfl rfl wr _ (evC ye (.slice yo yn yc)) 92 rfl rfl rfl (by rw [evSize, evC_size]) (by rw [evC_size]; rfl) (evC_one _ _ rfl) ?_; rintro W2 hg hb hlt; have E2 := Lib.hid (show EvAt W2 wr.heap.size 92 ye (.slice yo yn yc) from hg); have HB2 := Lib.hid (below_next HB.out hb); clear hg hb hlt))
      have C2 := Lib.hid (evAt_cells E2.out)
      have c2 := C2.out.2.2.2.1
      have HF4 := Lib.hid C2.out.2.2.2.2.1
      have HFD := Lib.hid (And.intro C2.out.1 C2.out.2.1)
      have HE4 := Lib.hid (cell_under12 C0.out.2.2.2.2.1 HB2.out)
      have HED := Lib.hid (And.intro (cell_under12 C0.out.1 HB2.out) (cell_under12 C0.out.2.1 HB2.out))
      obtain ⟨kd, hkd⟩ : ∃ kd, ye.kind = kd := ⟨_, rfl⟩
      rw [hkd] at c2
      by_cases hk1 : kd = 1
      · subst hk1
        have HP1P := Lib.hid ((putE_iff ye).2 hkd)
        have UNC := Lib.hid (fun w => refUnder_any ye.path e.path HPL.out w)
        obtain ⟨uu, huu⟩ : ∃ u, underP ye.path e.path = u := ⟨_, rfl⟩
        rw [huu] at UNC
        clear hkd
        go_upto_region 6 with fail
        clear c2
        cases uu with
        | true =>
          have HID := Lib.hid (show hideE ye e = true by unfold hideE; rw [huu]; rfl)
          clear huu
          have p1 := HF4.out
          have p2 := HE4.out
          go_wp2_with (first
            | (go_at_call 55; refine (UNC.out _).mono ?_; rintro z wz ⟨rfl, rfl⟩))
          go_ret
          exact ⟨by rw [first_no HFM.out HP1P.out HID.out]; rfl, below_next B0.out HB2.out⟩
        | false =>
          by_cases hpp : ye.path = e.path
          · have HQ1 := Lib.hid (str_eql (a := ye.path) (b := e.path) (r := true) (by rw [hpp]; simp))
            obtain ⟨cd, hcd⟩ : ∃ c, cmpD ye.r ye.q e.r e.q = c := ⟨_, rfl⟩
            have CMP := Lib.hid (fun w => refCompare_any ye.r ye.q e.r e.q w)
            rw [hcd] at CMP
            by_cases h1 : 0 < cd
            · have z1 : decide (cd > 0) = true := decide_eq_true h1
              have HID := Lib.hid (show hideE ye e = true by unfold hideE; rw [huu, hcd, decide_eq_true h1, hpp]; simp)
              clear huu hpp hcd h1
              have p1 := HF4.out
              have p2 := HE4.out
              go_wp2_with (first
                | (go_at_call 55; refine (UNC.out _).mono ?_; rintro z wz ⟨rfl, rfl⟩)
                | (refine binop_on (by rfl) .eql 9 9 (.tmp 27) (.tmp 29) rfl _ _ _ rfl rfl (str_guard _ _ _ _ _) HQ1.out ?_)
                | (refine load_dot10 (by rfl) 29 (.tmp 32) rfl ⟨wr.heap.size, 0, none⟩ rfl ye.r ye.q Tryz.underlying29 (by kernel_rfl) HFD.out ?_)
                | (refine load_dot10 (by rfl) 29 (.tmp 34) rfl ⟨w.heap.size, 0, none⟩ rfl e.r e.q Tryz.underlying29 (by kernel_rfl) HED.out ?_)
                | (go_at_call 62; refine (CMP.out _).mono ?_; rintro z w9 ⟨rfl, hb⟩; have B9 := Lib.hid (below_next HB2.out hb); clear hb))
              go_ret
              exact ⟨by rw [first_no HFM.out HP1P.out HID.out]; rfl, below_next B0.out B9.out⟩
            · have z1 : decide (cd > 0) = false := decide_eq_false h1
              have HID := Lib.hid (show hideE ye e = false by unfold hideE; rw [huu, hcd, decide_eq_false h1, hpp]; simp)
              clear huu hpp hcd h1
              have p1 := HF4.out
              have p2 := HE4.out
              go_wp2_with (first
                | (go_at_call 55; refine (UNC.out _).mono ?_; rintro z wz ⟨rfl, rfl⟩)
                | (refine binop_on (by rfl) .eql 9 9 (.tmp 27) (.tmp 29) rfl _ _ _ rfl rfl (str_guard _ _ _ _ _) HQ1.out ?_)
                | (refine load_dot10 (by rfl) 29 (.tmp 32) rfl ⟨wr.heap.size, 0, none⟩ rfl ye.r ye.q Tryz.underlying29 (by kernel_rfl) HFD.out ?_)
                | (refine load_dot10 (by rfl) 29 (.tmp 34) rfl ⟨w.heap.size, 0, none⟩ rfl e.r e.q Tryz.underlying29 (by kernel_rfl) HED.out ?_)
                | (go_at_call 62; refine (CMP.out _).mono ?_; rintro z w9 ⟨rfl, hb⟩; have B9 := Lib.hid (below_next HB2.out hb); clear hb))
              go_roundw
              case rel => exact ⟨i + 1, hi1, by go_num, seen_step HEX.out HNO.out (fun _ => HID.out), B9.out⟩
              case measure => simp [intOf] <;> omega
          · have HQ1 := Lib.hid (str_eql (a := ye.path) (b := e.path) (r := false) (beq_eq_false_iff_ne.2 hpp).symm)
            have HID := Lib.hid (show hideE ye e = false by unfold hideE; rw [huu, beq_eq_false_iff_ne.2 hpp]; rfl)
            clear huu hpp
            have p1 := HF4.out
            have p2 := HE4.out
            go_wp2_with (first
              | (go_at_call 55; refine (UNC.out _).mono ?_; rintro z wz ⟨rfl, rfl⟩)
              | (refine binop_on (by rfl) .eql 9 9 (.tmp 27) (.tmp 29) rfl _ _ _ rfl rfl (str_guard _ _ _ _ _) HQ1.out ?_))
            go_roundw
            case rel => exact ⟨i + 1, hi1, by go_num, seen_step HEX.out HNO.out (fun _ => HID.out), HB2.out⟩
            case measure => simp [intOf] <;> omega
      · have q2 : (kd != 1) = true := by rw [bne, beq_eq_false_iff_ne.2 hk1]; rfl
        have HPN := Lib.hid (show putE ye = false by cases hp : putE ye with | false => rfl | true => exact absurd (hkd.symm.trans ((putE_iff ye).1 hp)) hk1)
        clear hkd hk1
        go_wp2
        go_roundw
        case rel => exact ⟨i + 1, hi1, by go_num, seen_step HEX.out HNO.out (fun h => absurd (h.symm.trans HPN.out) (by simp)), HB2.out⟩
        case measure => simp [intOf] <;> omega
    · obtain rfl : i = n := by omega
      have q0 : ¬ (i : Int) < (i : Int) := by omega
      have HALL := Lib.hid (show firstE (us.map (·.1)) e = true from first_all (by
        have h := HNO.out
        rwa [List.take_of_length_le (by rw [List.length_map]; exact Nat.le_of_eq HN.out.symm)] at h))
      go_wp2
      go_ret
      exact ⟨by rw [HALL.out]; rfl, below_next B0.out HB.out⟩
end Go.Proofs.YtppmbdpfledejaaGreatDoor
namespace Go.Proofs.YtppmbdpfledejaaGreatDoor
open Go.RowKit
theorem place_ok {S : List Sh} {s : Sh} {k : Nat} (hs : SortedK Sh.path S) (h1 : ∀ x ∈ S.drop k, ltK Sh.path s x = true) (h2 : k = 0 ∨ ∃ x, S[k - 1]? = some x ∧ leK Sh.path x s) : StableK Sh.path (S ++ [s]) (S.take k ++ s :: S.drop k) := by
  have h := stable_right (key := Sh.path) (A := S.take k) (B := S.drop k) (y := s) (by rw [List.take_append_drop]; exact hs) (fun x hx => ?_) h1
  · rwa [List.take_append_drop] at h
  · rcases h2 with rfl | ⟨y, hy, hle⟩
    · simp at hx
    · obtain ⟨j, hj⟩ := List.mem_iff_getElem?.1 hx
      have hjk : j < k := by
        have h3 := (List.getElem?_eq_some_iff.1 hj).1
        rw [List.length_take] at h3; omega
      rw [List.getElem?_take_of_lt hjk] at hj
      by_cases he : j = k - 1
      · subst he
        rw [hj] at hy
        cases hy; exact hle
      · obtain ⟨a1, a2⟩ := List.getElem?_eq_some_iff.1 hj
        obtain ⟨b1, b2⟩ := List.getElem?_eq_some_iff.1 hy
        have h4 := (List.pairwise_iff_getElem.1 hs) j (k - 1) a1 b1 (by omega)
        rw [a2, b2] at h4
        exact leK_trans h4 hle
theorem stable_snocV {l S S' : List Sh} {y : Sh} (h : StableK Sh.path l S) (h' : StableK Sh.path (S ++ [y]) S') : StableK Sh.path (l ++ [y]) S' := ⟨h'.1, fun p => by rw [h'.2.1 p, fltK_append, fltK_append, h.2.1 p], by rw [h'.2.2, List.length_append, List.length_append, h.2.2]⟩
theorem drop_stepV {S : List Sh} {k : Nat} {x s : Sh} (hx : S[k]? = some x) (h : ∀ y ∈ S.drop (k + 1), ltK Sh.path s y = true) (hl : ltK Sh.path s x = true) : ∀ y ∈ S.drop k, ltK Sh.path s y = true := by
  obtain ⟨h1, h2⟩ := List.getElem?_eq_some_iff.1 hx
  intro y hy
  rw [List.drop_eq_getElem_cons h1, h2] at hy
  rcases List.mem_cons.1 hy with rfl | hy
  · exact hl
  · exact h y hy
theorem bl_gtr (a b : List UInt8) : (!Op.bytesLess a b && !a == b) = Op.bytesLess b a := by
  rcases cmpB_cases a b with ⟨-, rfl⟩ | ⟨-, h, hn⟩ | ⟨-, h, hn⟩
  · simp [bytesLess_irrefl]
  · rw [h, bl_asymm h]; rfl
  · rw [h, bl_asymm h, beq_eq_false_iff_ne.2 hn]; rfl
theorem str_gtr {a b : List UInt8} {r : Bool} (h : r = Op.bytesLess b a) : ∀ w, (binOp .gtr 9 (.string (str a)) (.string (str b))).run Tryz.prog w = .ok (.bool r) w := fun w => by
  have u := Tryz.underlying9
  subst h
  go_simp
  simp only [str_toList]
  exact bl_gtr a b
theorem shC_setPath (s : Sh) (p : List UInt8) : (shC s).setIfInBounds 0 (.string (str p)) = shC ⟨p, s.r, s.q, s.sum, s.size⟩ := by
  apply Array.ext'
  simp [shC]
theorem store_str {P : Program} {ops : Array Oper} {rest : List Oper} {o : Oper} {a : Act} {w : World} {Q : Exit → Act → World → Prop} (hgd : o.guard = none) (ty : TypeId) (x y : Operand) (ho : o.op = .store ty x y) (hd : o.dst = none)
    (g off : Nat) (cur : Array Value) (z : ByteArray) (t : TypeId) (hg : w.heap[g]? = some (.cells cur t (0, 0))) (hx : a.eval x = .pointer (some ⟨g, off, none⟩)) (hy : a.eval y = .string z) (hfit : off < cur.size)
    (hi : (P.info? ty).map (·.size) = some 1)
    (h : ∀ w', w'.heap[g]? = some (.cells (cur.setIfInBounds off (.string z)) t (0, 0)) → Solo g w w' → wpList P ops Q rest a w') : wpList P ops Q (o :: rest) a w := by
  refine wpList_plain hgd fun K hK => ?_
  have hcell : w.cell? ⟨g, off, none⟩ = some cur[off] := by simp [World.cell?, hg, hfit]
  have hfro : w.frozen? ⟨g, off, none⟩ = false := by simp [World.frozen?, hg]
  have hadd : (⟨g, off, none⟩ : Addr).add 0 = ⟨g, off, none⟩ := by unfold Addr.add; split <;> simp_all
  have hst : (storeVar ty ⟨g, off, none⟩ (.string z)).run P w = .ok () (w.setRow g (cur.setIfInBounds off (.string z))) := by
    cases hq : P.info? ty with
    | none => simp [hq] at hi
    | some i =>
      have hs : i.size = 1 := by simpa [hq] using hi
      simp [storeVar, sizeOf, typeInfo, hq, Value.cells, hs, storeCells, hadd, run_store P w _ _ _ (show (Value.string z).oneCell' = true from rfl), hcell, hfro, setCell_eq_setRow w g off cur t (0, 0) _ hg]
  unfold Oper.wp execOp
  simp only [ho, hx, hy, Instr.storeAt, Instr.sureAddr, Sem.run_bind, Sem.run_pure, Result.andThen_ok, hst]
  refine hK _ _ ?_
  rw [hd]
  exact h _ (setRow_heap w g cur _ t _ hg) (solo_setRow w g _)
set_option maxHeartbeats 1600000 in
theorem store_path {P : Program} {ops : Array Oper} {rest : List Oper} {o : Oper} {a : Act} {w : World} {Q : Exit → Act → World → Prop} (hgd : o.guard = none) (ty : TypeId) (x y : Operand) (ho : o.op = .store ty x y) (hd : o.dst = none)
    (g : Nat) (s : Sh) (p : List UInt8) (t : TypeId) (hg : ShAt w g t s) (hx : a.eval x = .pointer (some ⟨g, 0, none⟩)) (hy : a.eval y = .string (str p))
    (hi : (P.info? ty).map (·.size) = some 1)
    (h : ∀ w', ShAt w' g t ⟨p, s.r, s.q, s.sum, s.size⟩ → Solo g w w' → wpList P ops Q rest a w') : wpList P ops Q (o :: rest) a w := by
  refine store_str hgd ty x y ho hd g 0 (shC s) (str p) t hg hx hy (by rw [shC_size]; omega) hi fun w' hw' hs => h w' ?_ hs
  rw [shC_setPath] at hw'
  exact hw'
theorem evAt_addrV {w : World} {B : Nat} {T : TypeId} {e : Ev} {v : Value} (h : EvAt w B T e v) : ∀ j u, (evC e v)[j]? = some u → w.cell? ((⟨B, 0, none⟩ : Addr).add j) = some u := fun j u hu => by
  rw [Addr.add_lit, Nat.zero_add]; exact evAt_cell h j u hu
theorem own_emptyS {w : World} {base B : Nat} {e : TypeId} (h : w.heap[B]? = some (.cells #[] e (0, 0))) (hb : base ≤ B) : w.ownsRow base e 36 (.slice (some ⟨B, 0, none⟩) 0 0) ([] : List Sh).length (shsC []) :=
  ⟨rfl, .inr ⟨B, 0, #[], rfl, hb, h, Nat.le_refl _, Nat.zero_le _, rfl, rfl⟩⟩
theorem str_size1 : (Tryz.prog.info? 9).map (·.size) = some 1 := by kernel_rfl
set_option maxRecDepth 100000 in
theorem rs_built (s : Sh) : Tryz.prog.built 36 [(0, .string (str s.path)), (1, .agg #[.int .i64 s.r, .int .i64 s.q]), (2, rowV .u8 32 s.sum), (3, .int .i64 s.size)] = some (shC s) := by kernel_rfl
theorem own_monoS {w : World} {base base' : Nat} {e : TypeId} {size : Nat} {v : Value} {n : Nat} {xs : List Value} (h : w.ownsRow base e size v n xs) (hb : base' ≤ base) : w.ownsRow base' e size v n xs := by
  refine ⟨h.1, ?_⟩
  rcases h.2 with h0 | ⟨b, cap, cur, rfl, h1, rest⟩
  · exact .inl h0
  · exact .inr ⟨b, cap, cur, rfl, Nat.le_trans hb h1, rest⟩
set_option linter.unusedSimpArgs false in
set_option maxRecDepth 100000 in
set_option maxHeartbeats 16000000 in
theorem refView_any (us : List (Ev × Value)) (hl : us.length ≤ 20000) (hf : FitV us) (v : Value) (w : World) (hv : HoldsU w v us) (hd : DepsU w us) : Calls Tryz.prog 9 #[v] w fun x w' => ∃ y, x = .returned y ∧ HasView w' y (us.map (·.1)) ∧ Below w.heap.size w w' := by
  obtain ⟨n, hn⟩ : ∃ n, n = us.length := ⟨_, rfl⟩
  have hn5 : n ≤ 20000 := by omega
  have HN := Lib.hid hn
  have HL := Lib.hid hl
  obtain ⟨ao, cap, hvs⟩ := holdsU_shape hv n hn
  subst hvs
  have HV := Lib.hid hv
  have HD := Lib.hid hd
  have HF := Lib.hid hf
  obtain ⟨ie, hie, hiz⟩ := infoRs
  have HIE := Lib.hid hie
  have HIZ := Lib.hid hiz
  obtain ⟨B0, hB0⟩ : ∃ b, b = w.heap.size := ⟨_, rfl⟩
  have HB0 := Lib.hid hB0
  clear hl hf hv hd hn hie hiz hB0
  go_enter Tryz.func9, Tryz.ntmps9
  go_wp2
  go_loopw [3, 4] (fun vo c wr => ∃ (i : Nat) (S : List Sh), i ≤ n ∧ c = .int .i64 (i : Int) ∧ wr.ownsRow B0 36 36 vo S.length (shsC S) ∧ StableK Sh.path ((((us.map (·.1)).take i).filter putE).map (shE (us.map (·.1)))) S ∧ Below w.heap.size w wr) (fun _ c _ => n - (intOf c).toNat)
  case atStart => exact ⟨0, [], Nat.zero_le _, rfl, World.ownsRow_nil _ _ _ _, stable_sorted List.Pairwise.nil, Below.refl _ _⟩
  case round =>
    obtain ⟨i, S, hi, rfl, ho, hst, hb⟩ := hrel
    have HO := Lib.hid ho
    have HST := Lib.hid hst
    have HB := Lib.hid hb
    have hSL : S.length ≤ 20000 := by rw [hst.2.2]; exact Nat.le_trans (shows_le _ _) (by omega)
    have HSL := Lib.hid hSL
    obtain ⟨m, hm⟩ : ∃ m, m = S.length := ⟨_, rfl⟩
    obtain ⟨so, sc, rfl⟩ := holdsS_shape (holdsS_own ho) m hm
    have hm5 : m ≤ 20000 := by omega
    have HM := Lib.hid hm
    clear ho hst hb hSL hm
    by_cases hil : i < n
    · have q0 : (i : Int) < (n : Int) := by omega
      have hi1 : i + 1 ≤ n := hil
      obtain ⟨x, hx⟩ : ∃ x, us[i]? = some x := ⟨_, List.getElem?_eq_getElem (by have := HN.out; omega)⟩
      obtain ⟨ad, cap', e1, hcx⟩ := holdsU_at (holdsU_below HV.out HB.out) n i HN.out.symm x hx
      cases e1
      have hux := HD.out x (List.mem_of_getElem? hx)
      have hfx := HF.out x (List.mem_of_getElem? hx)
      have HEX := Lib.hid (fst_atM hx)
      obtain ⟨ye, yv⟩ := x
      dsimp only at hcx hux hfx HEX
      obtain ⟨yo, yc, rfl⟩ := dots_shape hux ye.deps.length rfl
      obtain ⟨yn, hyn⟩ : ∃ m, m = ye.deps.length := ⟨_, rfl⟩
      rw [← hyn] at hcx hux
      have HC := Lib.hid hcx
      have HUX := Lib.hid hux
      have HFX := Lib.hid hfx
      have FS := Lib.hid (shows_snoc (h := us.map (·.1)) HEX.out)
      clear hx hcx hux hfx hi hyn
      go_upto_region 6 with (first
        | (refine load_evA_on (by rfl) 92 (.tmp 17) rfl (ad.add (i * 38)) rfl Tryz.underlying92 evSize HC.out ?_)
        | (refine store_new rfl 92 (.tmp 5) (.tmp 18) rfl rfl wr _ (evC ye (.slice yo yn yc)) 92 rfl rfl rfl (by rw [evSize, evC_size]) (by rw [evC_size]; rfl) (evC_one _ _ rfl) ?_; rintro W2 hg hb hlt; have E2 := Lib.hid (show EvAt W2 wr.heap.size 92 ye (.slice yo yn yc) from hg); have C2 := Lib.hid hb; have HB2 := Lib.hid (below_next HB.out hb); clear hg hb hlt))
      have A2 := Lib.hid (evAt_cells E2.out)
      have c2 := A2.out.2.2.2.1
      have O2 := Lib.hid (own_below HO.out C2.out)
      obtain ⟨eb, heb⟩ : ∃ b, b = wr.heap.size := ⟨_, rfl⟩
      rw [← heb] at E2 A2 c2 ⊢
      clear heb
      obtain ⟨kd, hkd⟩ : ∃ kd, ye.kind = kd := ⟨_, rfl⟩
      rw [hkd] at c2
      by_cases hk1 : kd = 1
      · subst hk1
        have HP1P := Lib.hid ((putE_iff ye).2 hkd)
        rw [HP1P.out, if_pos rfl] at FS
        clear hkd
        go_upto_region 7 with fail
        have p1 := A2.out.2.2.2.2.1
        have p5 := A2.out.2.2.2.2.2
        have HED := Lib.hid (And.intro A2.out.1 A2.out.2.1)
        go_upto_region 8 with (first
          | (refine load_dot10 (by rfl) 29 (.tmp 24) rfl ⟨eb, 0, none⟩ rfl ye.r ye.q Tryz.underlying29 (by kernel_rfl) HED.out ?_)
          | (refine load_sum_on (by rfl) 31 (.tmp 26) rfl eb rfl E2.out Tryz.underlying31 (by kernel_rfl) ?_)
          | (refine build_as rfl 36 #[(0, .tmp 23), (1, .tmp 25), (2, .tmp 27), (3, .tmp 29)] rfl _ _ (rs_built ⟨ye.path, ye.r, ye.q, ye.sum, ye.size⟩) (by simp [Act.eval]) ?_)
          | (refine store_new rfl 36 (.tmp 6) (.tmp 30) rfl rfl W2 _ (shC ⟨ye.path, ye.r, ye.q, ye.sum, ye.size⟩) 36 rfl rfl rfl (by rw [rsSize, shC_size]) (by rw [shC_size]; rfl) (shC_one _) ?_; rintro W3 hg hb hlt; have S3 := Lib.hid (show ShAt W3 W2.heap.size 36 ⟨ye.path, ye.r, ye.q, ye.sum, ye.size⟩ from hg); have C3 := Lib.hid hb; clear hg hb hlt))
        have E3 := Lib.hid (evAt_kept E2.out C3.out)
        have O3 := Lib.hid (own_below O2.out C3.out)
        have HB3 := Lib.hid (below_next HB2.out C3.out)
        have HBX := Lib.hid (below_next C2.out C3.out)
        obtain ⟨sb, hsb⟩ : ∃ b, b = W2.heap.size := ⟨_, rfl⟩
        have HSB := Lib.hid (show B0 ≤ sb by rw [hsb, HB0.out]; exact HB2.out.size)
        rw [← hsb] at S3 ⊢
        have NE := Lib.hid (show ∀ b, (Value.slice so m sc).ownBlock = some b → b ≠ sb from fun b hb => Nat.ne_of_lt (by rw [hsb]; exact (O2.out.lt b hb).2))
        clear c2 p1 p5 hsb
        obtain ⟨fb, hfb⟩ : ∃ f, firstE (us.map (·.1)) ye = f := ⟨_, rfl⟩
        have FIR := refFirst_any us HL.out _ _ ye HFX.out.2.2 W3 (holdsU_below HV.out HB3.out) (depsU_below HD.out HB3.out) (dots_below HUX.out HB3.out)
        rw [hfb] at FIR
        have FIR := Lib.hid FIR
        have HE3 := Lib.hid (evAt_addrV E3.out)
        cases fb with
        | true =>
          have SE := Lib.hid (show shE (us.map (·.1)) ye = ⟨ye.path, ye.r, ye.q, ye.sum, ye.size⟩ by unfold shE; rw [hfb]; rfl)
          rw [SE.out] at FS
          clear hfb
          go_upto_region 10 with (first
            | (refine load_evA_on (by rfl) 92 (.tmp 5) rfl ⟨eb, 0, none⟩ rfl Tryz.underlying92 evSize HE3.out ?_)
            | (go_at_call 44; refine FIR.out.mono ?_; rintro x W4 ⟨rfl, hb⟩; have C4 := Lib.hid hb; clear hb))
          have S4 := Lib.hid (shAt_kept S3.out C4.out)
          have O4 := Lib.hid (own_below O3.out C4.out)
          have HB4 := Lib.hid (below_next HB3.out C4.out)
          generalize W4 = W7 at *
          obtain ⟨sh, hsh⟩ : ∃ s : Sh, s = ⟨ye.path, ye.r, ye.q, ye.sum, ye.size⟩ := ⟨_, rfl⟩
          rw [← hsh] at S4 FS
          clear hsh
          have SP := Lib.hid (shAt_cells S4.out)
          go_wp2
          go_loopw [7] (fun c w9 => ∃ k : Nat, k ≤ m ∧ c = .int .i64 (k : Int) ∧ (∀ x ∈ S.drop k, ltK Sh.path sh x = true) ∧ Below W7.heap.size W7 w9) (fun c _ => (intOf c).toNat)
          case atStart => exact ⟨m, Nat.le_refl _, rfl, (fun x hx => by rw [List.drop_of_length_le (Nat.le_of_eq HM.out.symm)] at hx; cases hx), Below.refl _ _⟩
          case round =>
            obtain ⟨k, hk, rfl, hab, hb⟩ := hrel
            have HAB := Lib.hid hab
            have HBI := Lib.hid hb
            have HKM := Lib.hid hk
            clear hab hb
            generalize wr = w8 at *
            have SPW := Lib.hid (cell_under12 SP.out.1 HBI.out)
            by_cases hk0 : k = 0
            · have z0 : decide ((k : Int) > 0) = false := decide_eq_false (by omega)
              have z1 : decide (0 < k) = false := decide_eq_false (by omega)
              have z2 : decide ((0 : Int) < (k : Int)) = false := decide_eq_false (by omega)
              have H2 := Lib.hid (show k = 0 ∨ ∃ x, S[k - 1]? = some x ∧ leK Sh.path x sh from .inl hk0)
              clear hk0 hk
              go_upto_region 11 with fail
              refine wp_region_held_drew (S := fun w' => Below w8.heap.size w8 w') (by kernel_rfl) (drawS (Below.refl _ _)) (fun hHeld => ?_)
              generalize w8.drew = wd at hHeld ⊢
              refine take_at (i := 0) 43 rfl rfl (by kernel_rfl) (by kernel_rfl) (by kernel_rfl) (fun _ _ _ h => h) (sure_yes (by rfl) (fun w => by go_simp; try with_reducible rfl)) hHeld ?_
              simp only [List.setIfInBounds_toArray, List.set_cons_zero, List.set_cons_succ]
              refine take_at (i := 1) 44 rfl rfl (by kernel_rfl) (by kernel_rfl) (by kernel_rfl) (fun _ _ _ h => h) (sure_yes (by rfl) (fun w => by go_simp; try with_reducible rfl)) hHeld ?_
              simp only [List.setIfInBounds_toArray, List.set_cons_zero, List.set_cons_succ]
              refine take_at (i := 2) 45 rfl rfl (by kernel_rfl) (by kernel_rfl) (by kernel_rfl) (fun _ _ _ h => h) (sure_yes (by rfl) (fun w => by go_simp; try with_reducible rfl)) hHeld ?_
              simp only [List.setIfInBounds_toArray, List.set_cons_zero, List.set_cons_succ]
              refine take_at (i := 3) 46 rfl rfl (by kernel_rfl) (by kernel_rfl) (by kernel_rfl) (fun _ _ _ h => h) (.inr ⟨by rfl, rfl⟩) hHeld ?_
              simp only [List.setIfInBounds_toArray, List.set_cons_zero, List.set_cons_succ]
              refine take_at (i := 4) 47 rfl rfl (by kernel_rfl) (by kernel_rfl) (by kernel_rfl) (fun _ _ _ h => h) (.inr ⟨by rfl, rfl⟩) hHeld ?_
              simp only [List.setIfInBounds_toArray, List.set_cons_zero, List.set_cons_succ]
              refine take_at (i := 5) 48 rfl rfl (by kernel_rfl) (by kernel_rfl) (by kernel_rfl) (fun _ _ _ h => h) (.inr ⟨by rfl, rfl⟩) hHeld ?_
              simp only [List.setIfInBounds_toArray, List.set_cons_zero, List.set_cons_succ]
              refine take_at (i := 6) 49 rfl rfl (by kernel_rfl) (by kernel_rfl) (by kernel_rfl) (fun _ _ _ h => h) (.inr ⟨by rfl, rfl⟩) hHeld ?_
              simp only [List.setIfInBounds_toArray, List.set_cons_zero, List.set_cons_succ]
              refine take_at (i := 7) 50 rfl rfl (by kernel_rfl) (by kernel_rfl) (by kernel_rfl) (fun _ _ _ h => h) (.inr ⟨by rfl, rfl⟩) hHeld ?_
              simp only [List.setIfInBounds_toArray, List.set_cons_zero, List.set_cons_succ]
              refine take_at (i := 8) 51 rfl rfl (by kernel_rfl) (by kernel_rfl) (by kernel_rfl) (fun _ _ _ h => h) (.inr ⟨by rfl, rfl⟩) hHeld ?_
              simp only [List.setIfInBounds_toArray, List.set_cons_zero, List.set_cons_succ]
              refine take_at (i := 9) 52 rfl rfl (by kernel_rfl) (by kernel_rfl) (by kernel_rfl) (fun _ _ _ h => h) (.inr ⟨by rfl, rfl⟩) hHeld ?_
              simp only [List.setIfInBounds_toArray, List.set_cons_zero, List.set_cons_succ]
              refine take_at (i := 10) 53 rfl rfl (by kernel_rfl) (by kernel_rfl) (by kernel_rfl) (fun _ _ _ h => h) (.inr ⟨by rfl, rfl⟩) hHeld ?_
              simp only [List.setIfInBounds_toArray, List.set_cons_zero, List.set_cons_succ]
              refine take_at (i := 11) 54 rfl rfl (by kernel_rfl) (by kernel_rfl) (by kernel_rfl) (fun _ _ _ h => h) (.inr ⟨by rfl, rfl⟩) hHeld ?_
              simp only [List.setIfInBounds_toArray, List.set_cons_zero, List.set_cons_succ]
              refine take_at (i := 12) 55 rfl rfl (by kernel_rfl) (by kernel_rfl) (by kernel_rfl) (fun _ _ _ h => h) (sure_yes (by rfl) (fun w => by go_simp; try with_reducible rfl)) hHeld ?_
              simp only [List.setIfInBounds_toArray, List.set_cons_zero, List.set_cons_succ]
              refine wpAnyH_done (by kernel_rfl) ?_ _
              have BI := Lib.hid (below_next HBI.out hHeld)
              clear hHeld
              have S8 := Lib.hid (shAt_kept S4.out BI.out)
              have O8 := Lib.hid (own_below O4.out BI.out)
              have HB8 := Lib.hid (below_next HB4.out BI.out)
              have PL := Lib.hid (place_ok HST.out.1 HAB.out H2.out)
              generalize wd = w9 at *
              go_upto_region 13 with fail
              have HE := Lib.hid (heap_last w9 (.cells #[] 36 (0, 0)))
              have CE := Lib.hid ((Below.refl w9.heap.size w9).alloc (Nat.le_refl _) (.cells #[] 36 (0, 0)))
              go_upto_region 14 with (first
                | (refine wpList_sliceS_lo rfl (.tmp 59) (.tmp 60) 26 rfl Tryz.underlying26 (fun w => by kernel_rfl) _ S rfl k rfl (holdsS_own (own_below O8.out CE.out)) (by rw [← HM.out]; exact HKM.out) ?_; intro v61 h61; have H61 := Lib.hid h61; clear h61)
                | (at_builtin; refine append_ss rfl (.tmp 58) (.tmp 61) 26 rfl w9.heap.size 36 ie Tryz.underlying26 HIE.out HIZ.out _ [] (S.take k) rfl (own_emptyS HE.out (Nat.le_refl _)) _ rfl H61.out (by have := HSL.out; rw [List.length_take]; simp; omega) CE.out.size ?_; intro v62 W10 ho hg; have O10 := Lib.hid (show W10.ownsRow w9.heap.size 36 36 v62 (S.take k).length (shsC (S.take k)) from ho); have B10 := Lib.hid (below_grown CE.out hg CE.out.size (fun b hb => by cases hb; exact Nat.le_refl _)); clear ho hg))
              have S10 := Lib.hid (shAt_kept S8.out B10.out)
              go_upto_region 15 with (first
                | (refine load_shA_on (by rfl) 36 (.tmp 6) rfl ⟨sb, 0, none⟩ rfl Tryz.underlying36 rsSize (shAt_addr S10.out) ?_)
                | (refine build_rsM rfl 65 rfl (.tmp 64) rfl _ rfl sh rfl ?_; rintro W11 hs6 hb6 hn6; have HS11 := Lib.hid hs6; have B11 := Lib.hid (below_next B10.out hb6); have O11 := Lib.hid (own_below O10.out hb6); clear hs6 hb6 hn6)
                | (at_builtin; refine append_shs rfl (.tmp 63) (.tmp 65) 26 rfl w9.heap.size 36 ie Tryz.underlying26 HIE.out HIZ.out _ (S.take k) [sh] rfl O11.out _ 1 1 rfl rfl (shAt_one HS11.out) (by have := HSL.out; rw [List.length_take]; simp; omega) B11.out.size ?_; intro v66 W12 ho hg; have O12 := Lib.hid ho; have B12 := Lib.hid (below_grown B11.out hg B11.out.size (fun b hb => (O11.out.lt b hb).1)); clear ho hg))
              go_upto_region 16 with (first
                | (refine wpList_sliceS_hi rfl (.tmp 68) (.tmp 69) 26 rfl Tryz.underlying26 (fun w => by kernel_rfl) _ S rfl k rfl (holdsS_below (holdsS_own O8.out) B12.out) (by rw [← HM.out]; exact HKM.out) ?_; intro v70 h70; have H70 := Lib.hid h70; clear h70)
                | (at_builtin; refine append_ss rfl (.tmp 67) (.tmp 70) 26 rfl w9.heap.size 36 ie Tryz.underlying26 HIE.out HIZ.out _ (S.take k ++ [sh]) (S.drop k) rfl O12.out _ rfl H70.out (by have := HSL.out; rw [List.length_append, List.length_take, List.length_drop]; simp; omega) B12.out.size ?_; intro v71 W13 ho hg; have O13 := Lib.hid ho; have B13 := Lib.hid (below_grown B12.out hg B12.out.size (fun b hb => (O12.out.lt b hb).1)); clear ho hg))
              have EN := Lib.hid (show S.take k ++ [sh] ++ S.drop k = S.take k ++ sh :: S.drop k by simp)
              rw [EN.out] at O13
              go_wp2
              go_roundw
              case rel => exact ⟨i + 1, _, hi1, by go_num, own_monoS O13.out (by rw [HB0.out]; exact HB8.out.size), by rw [FS.out]; exact stable_snocV HST.out PL.out, below_next HB8.out B13.out⟩
              case measure => simp [intOf] <;> omega
            · obtain ⟨p, hp⟩ : ∃ p, p + 1 = k := ⟨k - 1, by omega⟩
              have z0 : decide ((k : Int) > 0) = true := decide_eq_true (by omega)
              have z1 : decide (0 < k) = true := decide_eq_true (by omega)
              have z2 : decide ((0 : Int) < (k : Int)) = true := decide_eq_true (by omega)
              have q3 : (k : Int) - 1 = (p : Int) := by omega
              have q5 : IntKind.i64.wrap (p : Int) = (p : Int) := by rw [IntKind.wrap_i64]; omega
              have q6 : (p : Int) < (m : Int) := by omega
              have q7 : p < m := by omega
              obtain ⟨x, hx⟩ : ∃ x, S[p]? = some x := ⟨_, List.getElem?_eq_getElem (by have := HM.out; omega)⟩
              obtain ⟨sd, sc', e9, hcs⟩ := holdsS_at (holdsS_own (own_below O4.out HBI.out)) m p HM.out.symm x hx
              cases e9
              have HPX := Lib.hid (sh_field0 hcs _ (shC_at x).1)
              have HXP := Lib.hid hx
              have HPK := Lib.hid hp
              obtain ⟨gb, hgb⟩ : ∃ g, g = Op.bytesLess sh.path x.path := ⟨_, rfl⟩
              have HGT := Lib.hid (str_gtr hgb)
              have HGB := Lib.hid hgb
              clear hx hcs hk0 hk hp hgb
              cases gb with
              | true =>
                go_upto_region 11 with fail
                refine wp_region_held_drew (S := fun w' => Below w8.heap.size w8 w') (by kernel_rfl) (drawS (Below.refl _ _)) (fun hHeld => ?_)
                generalize w8.drew = wd at hHeld ⊢
                refine take_at (i := 0) 43 rfl rfl (by kernel_rfl) (by kernel_rfl) (by kernel_rfl) (fun _ _ _ h => h) (sure_yes (by rfl) (fun w => by go_simp; try with_reducible rfl)) hHeld ?_
                simp only [List.setIfInBounds_toArray, List.set_cons_zero, List.set_cons_succ]
                refine take_at (i := 1) 44 rfl rfl (by kernel_rfl) (by kernel_rfl) (by kernel_rfl) (fun _ _ _ h => h) (sure_yes (by rfl) (fun w => by go_simp; try with_reducible rfl)) hHeld ?_
                simp only [List.setIfInBounds_toArray, List.set_cons_zero, List.set_cons_succ]
                refine take_at (i := 2) 45 rfl rfl (by kernel_rfl) (by kernel_rfl) (by kernel_rfl) (fun _ _ _ h => h) (sure_yes (by rfl) (fun w => by go_simp; try with_reducible rfl)) hHeld ?_
                simp only [List.setIfInBounds_toArray, List.set_cons_zero, List.set_cons_succ]
                refine take_at (i := 3) 46 rfl rfl (by kernel_rfl) (by kernel_rfl) (by kernel_rfl) (fun _ _ _ h => h) (sure_yes (by rfl) (fun w => by go_simp; try with_reducible rfl)) hHeld ?_
                simp only [List.setIfInBounds_toArray, List.set_cons_zero, List.set_cons_succ]
                refine take_at (i := 4) 47 rfl rfl (by kernel_rfl) (by kernel_rfl) (by kernel_rfl) (fun _ _ _ h => h) (sure_yes (by rfl) (fun w => by go_simp; try with_reducible rfl)) hHeld ?_
                simp only [List.setIfInBounds_toArray, List.set_cons_zero, List.set_cons_succ]
                refine take_at (i := 5) 48 rfl rfl (by kernel_rfl) (by kernel_rfl) (by kernel_rfl) (fun _ _ _ h => h) (sure_yes (by rfl) (fun w => by go_simp; try with_reducible rfl)) hHeld ?_
                simp only [List.setIfInBounds_toArray, List.set_cons_zero, List.set_cons_succ]
                refine take_at (i := 6) 49 rfl rfl (by kernel_rfl) (by kernel_rfl) (by kernel_rfl) (fun _ _ _ h => h) (sure_yes (by rfl) (fun w => by go_simp; try with_reducible rfl)) hHeld ?_
                simp only [List.setIfInBounds_toArray, List.set_cons_zero, List.set_cons_succ]
                refine take_at (i := 7) 50 rfl rfl (by kernel_rfl) (by kernel_rfl) (by kernel_rfl) (fun _ _ _ h => h) (sure_yes (by rfl) (fun w => by go_simp; try with_reducible rfl)) hHeld ?_
                simp only [List.setIfInBounds_toArray, List.set_cons_zero, List.set_cons_succ]
                refine take_at (i := 9) 52 rfl rfl (by kernel_rfl) (by kernel_rfl) (by kernel_rfl) (fun _ _ _ h => h) (sure_yes (by rfl) (fun w => by go_simp; try with_reducible rfl)) hHeld ?_
                simp only [List.setIfInBounds_toArray, List.set_cons_zero, List.set_cons_succ]
                refine take_at (i := 8) 51 rfl rfl (by kernel_rfl) (by kernel_rfl) (by kernel_rfl) (fun _ _ _ h => h) (str_yields12 (by rfl) 9 (.tmp 50) rfl (sd.add (p * 36)) rfl (str x.path) Tryz.underlying9 (fun w h => cell_under12 HPX.out h)) hHeld ?_
                simp only [List.setIfInBounds_toArray, List.set_cons_zero, List.set_cons_succ]
                refine take_at (i := 10) 53 rfl rfl (by kernel_rfl) (by kernel_rfl) (by kernel_rfl) (fun _ _ _ h => h) (str_yields12 (by rfl) 9 (.tmp 52) rfl ⟨sb, 0, none⟩ rfl (str sh.path) Tryz.underlying9 (fun w h => cell_under12 SPW.out h)) hHeld ?_
                simp only [List.setIfInBounds_toArray, List.set_cons_zero, List.set_cons_succ]
                refine take_at (i := 11) 54 rfl rfl (by kernel_rfl) (by kernel_rfl) (by kernel_rfl) (fun _ _ _ h => h) (sure_yes (by rfl) (op_knownS rfl rfl rfl (str_guard _ _ _ _ _) HGT.out)) hHeld ?_
                simp only [List.setIfInBounds_toArray, List.set_cons_zero, List.set_cons_succ]
                refine take_at (i := 12) 55 rfl rfl (by kernel_rfl) (by kernel_rfl) (by kernel_rfl) (fun _ _ _ h => h) (sure_yes (by rfl) (fun w => by go_simp; try with_reducible rfl)) hHeld ?_
                simp only [List.setIfInBounds_toArray, List.set_cons_zero, List.set_cons_succ]
                refine wpAnyH_done (by kernel_rfl) ?_ _
                have BI := Lib.hid (below_next HBI.out hHeld)
                clear hHeld
                go_wp2
                go_roundw
                case rel => exact ⟨p, by omega, by go_num, drop_stepV HXP.out (by rw [HPK.out]; exact HAB.out) HGB.out.symm, BI.out⟩
                case measure => have := HPK.out; simp [intOf] <;> omega
              | false =>
                have H2 := Lib.hid (show k = 0 ∨ ∃ x, S[k - 1]? = some x ∧ leK Sh.path x sh from .inr ⟨x, by rw [← HPK.out]; exact HXP.out, HGB.out.symm⟩)
                go_upto_region 11 with fail
                refine wp_region_held_drew (S := fun w' => Below w8.heap.size w8 w') (by kernel_rfl) (drawS (Below.refl _ _)) (fun hHeld => ?_)
                generalize w8.drew = wd at hHeld ⊢
                refine take_at (i := 0) 43 rfl rfl (by kernel_rfl) (by kernel_rfl) (by kernel_rfl) (fun _ _ _ h => h) (sure_yes (by rfl) (fun w => by go_simp; try with_reducible rfl)) hHeld ?_
                simp only [List.setIfInBounds_toArray, List.set_cons_zero, List.set_cons_succ]
                refine take_at (i := 1) 44 rfl rfl (by kernel_rfl) (by kernel_rfl) (by kernel_rfl) (fun _ _ _ h => h) (sure_yes (by rfl) (fun w => by go_simp; try with_reducible rfl)) hHeld ?_
                simp only [List.setIfInBounds_toArray, List.set_cons_zero, List.set_cons_succ]
                refine take_at (i := 2) 45 rfl rfl (by kernel_rfl) (by kernel_rfl) (by kernel_rfl) (fun _ _ _ h => h) (sure_yes (by rfl) (fun w => by go_simp; try with_reducible rfl)) hHeld ?_
                simp only [List.setIfInBounds_toArray, List.set_cons_zero, List.set_cons_succ]
                refine take_at (i := 3) 46 rfl rfl (by kernel_rfl) (by kernel_rfl) (by kernel_rfl) (fun _ _ _ h => h) (sure_yes (by rfl) (fun w => by go_simp; try with_reducible rfl)) hHeld ?_
                simp only [List.setIfInBounds_toArray, List.set_cons_zero, List.set_cons_succ]
                refine take_at (i := 4) 47 rfl rfl (by kernel_rfl) (by kernel_rfl) (by kernel_rfl) (fun _ _ _ h => h) (sure_yes (by rfl) (fun w => by go_simp; try with_reducible rfl)) hHeld ?_
                simp only [List.setIfInBounds_toArray, List.set_cons_zero, List.set_cons_succ]
                refine take_at (i := 5) 48 rfl rfl (by kernel_rfl) (by kernel_rfl) (by kernel_rfl) (fun _ _ _ h => h) (sure_yes (by rfl) (fun w => by go_simp; try with_reducible rfl)) hHeld ?_
                simp only [List.setIfInBounds_toArray, List.set_cons_zero, List.set_cons_succ]
                refine take_at (i := 6) 49 rfl rfl (by kernel_rfl) (by kernel_rfl) (by kernel_rfl) (fun _ _ _ h => h) (sure_yes (by rfl) (fun w => by go_simp; try with_reducible rfl)) hHeld ?_
                simp only [List.setIfInBounds_toArray, List.set_cons_zero, List.set_cons_succ]
                refine take_at (i := 7) 50 rfl rfl (by kernel_rfl) (by kernel_rfl) (by kernel_rfl) (fun _ _ _ h => h) (sure_yes (by rfl) (fun w => by go_simp; try with_reducible rfl)) hHeld ?_
                simp only [List.setIfInBounds_toArray, List.set_cons_zero, List.set_cons_succ]
                refine take_at (i := 9) 52 rfl rfl (by kernel_rfl) (by kernel_rfl) (by kernel_rfl) (fun _ _ _ h => h) (sure_yes (by rfl) (fun w => by go_simp; try with_reducible rfl)) hHeld ?_
                simp only [List.setIfInBounds_toArray, List.set_cons_zero, List.set_cons_succ]
                refine take_at (i := 8) 51 rfl rfl (by kernel_rfl) (by kernel_rfl) (by kernel_rfl) (fun _ _ _ h => h) (str_yields12 (by rfl) 9 (.tmp 50) rfl (sd.add (p * 36)) rfl (str x.path) Tryz.underlying9 (fun w h => cell_under12 HPX.out h)) hHeld ?_
                simp only [List.setIfInBounds_toArray, List.set_cons_zero, List.set_cons_succ]
                refine take_at (i := 10) 53 rfl rfl (by kernel_rfl) (by kernel_rfl) (by kernel_rfl) (fun _ _ _ h => h) (str_yields12 (by rfl) 9 (.tmp 52) rfl ⟨sb, 0, none⟩ rfl (str sh.path) Tryz.underlying9 (fun w h => cell_under12 SPW.out h)) hHeld ?_
                simp only [List.setIfInBounds_toArray, List.set_cons_zero, List.set_cons_succ]
                refine take_at (i := 11) 54 rfl rfl (by kernel_rfl) (by kernel_rfl) (by kernel_rfl) (fun _ _ _ h => h) (sure_yes (by rfl) (op_knownS rfl rfl rfl (str_guard _ _ _ _ _) HGT.out)) hHeld ?_
                simp only [List.setIfInBounds_toArray, List.set_cons_zero, List.set_cons_succ]
                refine take_at (i := 12) 55 rfl rfl (by kernel_rfl) (by kernel_rfl) (by kernel_rfl) (fun _ _ _ h => h) (sure_yes (by rfl) (fun w => by go_simp; try with_reducible rfl)) hHeld ?_
                simp only [List.setIfInBounds_toArray, List.set_cons_zero, List.set_cons_succ]
                refine wpAnyH_done (by kernel_rfl) ?_ _
                have BI := Lib.hid (below_next HBI.out hHeld)
                clear hHeld
                have S8 := Lib.hid (shAt_kept S4.out BI.out)
                have O8 := Lib.hid (own_below O4.out BI.out)
                have HB8 := Lib.hid (below_next HB4.out BI.out)
                have PL := Lib.hid (place_ok HST.out.1 HAB.out H2.out)
                generalize wd = w9 at *
                go_upto_region 13 with fail
                have HE := Lib.hid (heap_last w9 (.cells #[] 36 (0, 0)))
                have CE := Lib.hid ((Below.refl w9.heap.size w9).alloc (Nat.le_refl _) (.cells #[] 36 (0, 0)))
                go_upto_region 14 with (first
                  | (refine wpList_sliceS_lo rfl (.tmp 59) (.tmp 60) 26 rfl Tryz.underlying26 (fun w => by kernel_rfl) _ S rfl k rfl (holdsS_own (own_below O8.out CE.out)) (by rw [← HM.out]; exact HKM.out) ?_; intro v61 h61; have H61 := Lib.hid h61; clear h61)
                  | (at_builtin; refine append_ss rfl (.tmp 58) (.tmp 61) 26 rfl w9.heap.size 36 ie Tryz.underlying26 HIE.out HIZ.out _ [] (S.take k) rfl (own_emptyS HE.out (Nat.le_refl _)) _ rfl H61.out (by have := HSL.out; rw [List.length_take]; simp; omega) CE.out.size ?_; intro v62 W10 ho hg; have O10 := Lib.hid (show W10.ownsRow w9.heap.size 36 36 v62 (S.take k).length (shsC (S.take k)) from ho); have B10 := Lib.hid (below_grown CE.out hg CE.out.size (fun b hb => by cases hb; exact Nat.le_refl _)); clear ho hg))
                have S10 := Lib.hid (shAt_kept S8.out B10.out)
                go_upto_region 15 with (first
                  | (refine load_shA_on (by rfl) 36 (.tmp 6) rfl ⟨sb, 0, none⟩ rfl Tryz.underlying36 rsSize (shAt_addr S10.out) ?_)
                  | (refine build_rsM rfl 65 rfl (.tmp 64) rfl _ rfl sh rfl ?_; rintro W11 hs6 hb6 hn6; have HS11 := Lib.hid hs6; have B11 := Lib.hid (below_next B10.out hb6); have O11 := Lib.hid (own_below O10.out hb6); clear hs6 hb6 hn6)
                  | (at_builtin; refine append_shs rfl (.tmp 63) (.tmp 65) 26 rfl w9.heap.size 36 ie Tryz.underlying26 HIE.out HIZ.out _ (S.take k) [sh] rfl O11.out _ 1 1 rfl rfl (shAt_one HS11.out) (by have := HSL.out; rw [List.length_take]; simp; omega) B11.out.size ?_; intro v66 W12 ho hg; have O12 := Lib.hid ho; have B12 := Lib.hid (below_grown B11.out hg B11.out.size (fun b hb => (O11.out.lt b hb).1)); clear ho hg))
                go_upto_region 16 with (first
                  | (refine wpList_sliceS_hi rfl (.tmp 68) (.tmp 69) 26 rfl Tryz.underlying26 (fun w => by kernel_rfl) _ S rfl k rfl (holdsS_below (holdsS_own O8.out) B12.out) (by rw [← HM.out]; exact HKM.out) ?_; intro v70 h70; have H70 := Lib.hid h70; clear h70)
                  | (at_builtin; refine append_ss rfl (.tmp 67) (.tmp 70) 26 rfl w9.heap.size 36 ie Tryz.underlying26 HIE.out HIZ.out _ (S.take k ++ [sh]) (S.drop k) rfl O12.out _ rfl H70.out (by have := HSL.out; rw [List.length_append, List.length_take, List.length_drop]; simp; omega) B12.out.size ?_; intro v71 W13 ho hg; have O13 := Lib.hid ho; have B13 := Lib.hid (below_grown B12.out hg B12.out.size (fun b hb => (O12.out.lt b hb).1)); clear ho hg))
                have EN := Lib.hid (show S.take k ++ [sh] ++ S.drop k = S.take k ++ sh :: S.drop k by simp)
                rw [EN.out] at O13
                go_wp2
                go_roundw
                case rel => exact ⟨i + 1, _, hi1, by go_num, own_monoS O13.out (by rw [HB0.out]; exact HB8.out.size), by rw [FS.out]; exact stable_snocV HST.out PL.out, below_next HB8.out B13.out⟩
                case measure => simp [intOf] <;> omega
        | false =>
          have SE := Lib.hid (show shE (us.map (·.1)) ye = ⟨copyL ye.path ye.r ye.q, ye.r, ye.q, ye.sum, ye.size⟩ by unfold shE; rw [hfb]; rfl)
          rw [SE.out] at FS
          clear hfb
          have CPY := Lib.hid (fun w => refCopy_any ye.path ye.r ye.q HFX.out.2.2 HFX.out.1 HFX.out.2.1 w)
          go_upto_region 9 with (first
            | (refine load_evA_on (by rfl) 92 (.tmp 5) rfl ⟨eb, 0, none⟩ rfl Tryz.underlying92 evSize HE3.out ?_)
            | (go_at_call 44; refine FIR.out.mono ?_; rintro x W4 ⟨rfl, hb⟩; have C4 := Lib.hid hb; clear hb))
          have A4 := Lib.hid (evAt_cells (evAt_kept E3.out C4.out))
          have p1 := A4.out.2.2.2.2.1
          have HED4 := Lib.hid (And.intro A4.out.1 A4.out.2.1)
          have S4 := Lib.hid (shAt_kept S3.out C4.out)
          go_upto_region 10 with (first
            | (refine load_dot10 (by rfl) 29 (.tmp 37) rfl ⟨eb, 0, none⟩ rfl ye.r ye.q Tryz.underlying29 (by kernel_rfl) HED4.out ?_)
            | (go_at_call 45; refine (CPY.out _).mono ?_; rintro x W5 ⟨rfl, hb⟩; have C5 := Lib.hid (below_next C4.out hb); have S5 := Lib.hid (shAt_kept S4.out hb); clear hb)
            | (refine store_path rfl 9 (.tmp 40) (.tmp 39) rfl rfl sb _ (copyL ye.path ye.r ye.q) 36 S5.out rfl rfl str_size1 ?_; rintro W6 hs6 hso; have S6 := Lib.hid hs6; have X6 := Lib.hid hso; clear hs6 hso))
          have O4 := Lib.hid (own_solo2 (own_below O3.out C5.out) X6.out NE.out)
          have HB4 := Lib.hid (solo_below (below_next HB3.out C5.out) X6.out (by rw [← HB0.out]; exact HSB.out))
          have S4 := Lib.hid (show ShAt W6 sb 36 ⟨copyL ye.path ye.r ye.q, ye.r, ye.q, ye.sum, ye.size⟩ from S6.out)
          clear S6 X6 S5 C5 A4 p1 HED4
          generalize W6 = W7 at *
          obtain ⟨sh, hsh⟩ : ∃ s : Sh, s = ⟨copyL ye.path ye.r ye.q, ye.r, ye.q, ye.sum, ye.size⟩ := ⟨_, rfl⟩
          rw [← hsh] at S4 FS
          clear hsh
          have SP := Lib.hid (shAt_cells S4.out)
          go_wp2
          go_loopw [7] (fun c w9 => ∃ k : Nat, k ≤ m ∧ c = .int .i64 (k : Int) ∧ (∀ x ∈ S.drop k, ltK Sh.path sh x = true) ∧ Below W7.heap.size W7 w9) (fun c _ => (intOf c).toNat)
          case atStart => exact ⟨m, Nat.le_refl _, rfl, (fun x hx => by rw [List.drop_of_length_le (Nat.le_of_eq HM.out.symm)] at hx; cases hx), Below.refl _ _⟩
          case round =>
            obtain ⟨k, hk, rfl, hab, hb⟩ := hrel
            have HAB := Lib.hid hab
            have HBI := Lib.hid hb
            have HKM := Lib.hid hk
            clear hab hb
            generalize wr = w8 at *
            have SPW := Lib.hid (cell_under12 SP.out.1 HBI.out)
            by_cases hk0 : k = 0
            · have z0 : decide ((k : Int) > 0) = false := decide_eq_false (by omega)
              have z1 : decide (0 < k) = false := decide_eq_false (by omega)
              have z2 : decide ((0 : Int) < (k : Int)) = false := decide_eq_false (by omega)
              have H2 := Lib.hid (show k = 0 ∨ ∃ x, S[k - 1]? = some x ∧ leK Sh.path x sh from .inl hk0)
              clear hk0 hk
              go_upto_region 11 with fail
              refine wp_region_held_drew (S := fun w' => Below w8.heap.size w8 w') (by kernel_rfl) (drawS (Below.refl _ _)) (fun hHeld => ?_)
              generalize w8.drew = wd at hHeld ⊢
              refine take_at (i := 0) 43 rfl rfl (by kernel_rfl) (by kernel_rfl) (by kernel_rfl) (fun _ _ _ h => h) (sure_yes (by rfl) (fun w => by go_simp; try with_reducible rfl)) hHeld ?_
              simp only [List.setIfInBounds_toArray, List.set_cons_zero, List.set_cons_succ]
              refine take_at (i := 1) 44 rfl rfl (by kernel_rfl) (by kernel_rfl) (by kernel_rfl) (fun _ _ _ h => h) (sure_yes (by rfl) (fun w => by go_simp; try with_reducible rfl)) hHeld ?_
              simp only [List.setIfInBounds_toArray, List.set_cons_zero, List.set_cons_succ]
              refine take_at (i := 2) 45 rfl rfl (by kernel_rfl) (by kernel_rfl) (by kernel_rfl) (fun _ _ _ h => h) (sure_yes (by rfl) (fun w => by go_simp; try with_reducible rfl)) hHeld ?_
              simp only [List.setIfInBounds_toArray, List.set_cons_zero, List.set_cons_succ]
              refine take_at (i := 3) 46 rfl rfl (by kernel_rfl) (by kernel_rfl) (by kernel_rfl) (fun _ _ _ h => h) (.inr ⟨by rfl, rfl⟩) hHeld ?_
              simp only [List.setIfInBounds_toArray, List.set_cons_zero, List.set_cons_succ]
              refine take_at (i := 4) 47 rfl rfl (by kernel_rfl) (by kernel_rfl) (by kernel_rfl) (fun _ _ _ h => h) (.inr ⟨by rfl, rfl⟩) hHeld ?_
              simp only [List.setIfInBounds_toArray, List.set_cons_zero, List.set_cons_succ]
              refine take_at (i := 5) 48 rfl rfl (by kernel_rfl) (by kernel_rfl) (by kernel_rfl) (fun _ _ _ h => h) (.inr ⟨by rfl, rfl⟩) hHeld ?_
              simp only [List.setIfInBounds_toArray, List.set_cons_zero, List.set_cons_succ]
              refine take_at (i := 6) 49 rfl rfl (by kernel_rfl) (by kernel_rfl) (by kernel_rfl) (fun _ _ _ h => h) (.inr ⟨by rfl, rfl⟩) hHeld ?_
              simp only [List.setIfInBounds_toArray, List.set_cons_zero, List.set_cons_succ]
              refine take_at (i := 7) 50 rfl rfl (by kernel_rfl) (by kernel_rfl) (by kernel_rfl) (fun _ _ _ h => h) (.inr ⟨by rfl, rfl⟩) hHeld ?_
              simp only [List.setIfInBounds_toArray, List.set_cons_zero, List.set_cons_succ]
              refine take_at (i := 8) 51 rfl rfl (by kernel_rfl) (by kernel_rfl) (by kernel_rfl) (fun _ _ _ h => h) (.inr ⟨by rfl, rfl⟩) hHeld ?_
              simp only [List.setIfInBounds_toArray, List.set_cons_zero, List.set_cons_succ]
              refine take_at (i := 9) 52 rfl rfl (by kernel_rfl) (by kernel_rfl) (by kernel_rfl) (fun _ _ _ h => h) (.inr ⟨by rfl, rfl⟩) hHeld ?_
              simp only [List.setIfInBounds_toArray, List.set_cons_zero, List.set_cons_succ]
              refine take_at (i := 10) 53 rfl rfl (by kernel_rfl) (by kernel_rfl) (by kernel_rfl) (fun _ _ _ h => h) (.inr ⟨by rfl, rfl⟩) hHeld ?_
              simp only [List.setIfInBounds_toArray, List.set_cons_zero, List.set_cons_succ]
              refine take_at (i := 11) 54 rfl rfl (by kernel_rfl) (by kernel_rfl) (by kernel_rfl) (fun _ _ _ h => h) (.inr ⟨by rfl, rfl⟩) hHeld ?_
              simp only [List.setIfInBounds_toArray, List.set_cons_zero, List.set_cons_succ]
              refine take_at (i := 12) 55 rfl rfl (by kernel_rfl) (by kernel_rfl) (by kernel_rfl) (fun _ _ _ h => h) (sure_yes (by rfl) (fun w => by go_simp; try with_reducible rfl)) hHeld ?_
              simp only [List.setIfInBounds_toArray, List.set_cons_zero, List.set_cons_succ]
              refine wpAnyH_done (by kernel_rfl) ?_ _
              have BI := Lib.hid (below_next HBI.out hHeld)
              clear hHeld
              have S8 := Lib.hid (shAt_kept S4.out BI.out)
              have O8 := Lib.hid (own_below O4.out BI.out)
              have HB8 := Lib.hid (below_next HB4.out BI.out)
              have PL := Lib.hid (place_ok HST.out.1 HAB.out H2.out)
              generalize wd = w9 at *
              go_upto_region 13 with fail
              have HE := Lib.hid (heap_last w9 (.cells #[] 36 (0, 0)))
              have CE := Lib.hid ((Below.refl w9.heap.size w9).alloc (Nat.le_refl _) (.cells #[] 36 (0, 0)))
              go_upto_region 14 with (first
                | (refine wpList_sliceS_lo rfl (.tmp 59) (.tmp 60) 26 rfl Tryz.underlying26 (fun w => by kernel_rfl) _ S rfl k rfl (holdsS_own (own_below O8.out CE.out)) (by rw [← HM.out]; exact HKM.out) ?_; intro v61 h61; have H61 := Lib.hid h61; clear h61)
                | (at_builtin; refine append_ss rfl (.tmp 58) (.tmp 61) 26 rfl w9.heap.size 36 ie Tryz.underlying26 HIE.out HIZ.out _ [] (S.take k) rfl (own_emptyS HE.out (Nat.le_refl _)) _ rfl H61.out (by have := HSL.out; rw [List.length_take]; simp; omega) CE.out.size ?_; intro v62 W10 ho hg; have O10 := Lib.hid (show W10.ownsRow w9.heap.size 36 36 v62 (S.take k).length (shsC (S.take k)) from ho); have B10 := Lib.hid (below_grown CE.out hg CE.out.size (fun b hb => by cases hb; exact Nat.le_refl _)); clear ho hg))
              have S10 := Lib.hid (shAt_kept S8.out B10.out)
              go_upto_region 15 with (first
                | (refine load_shA_on (by rfl) 36 (.tmp 6) rfl ⟨sb, 0, none⟩ rfl Tryz.underlying36 rsSize (shAt_addr S10.out) ?_)
                | (refine build_rsM rfl 65 rfl (.tmp 64) rfl _ rfl sh rfl ?_; rintro W11 hs6 hb6 hn6; have HS11 := Lib.hid hs6; have B11 := Lib.hid (below_next B10.out hb6); have O11 := Lib.hid (own_below O10.out hb6); clear hs6 hb6 hn6)
                | (at_builtin; refine append_shs rfl (.tmp 63) (.tmp 65) 26 rfl w9.heap.size 36 ie Tryz.underlying26 HIE.out HIZ.out _ (S.take k) [sh] rfl O11.out _ 1 1 rfl rfl (shAt_one HS11.out) (by have := HSL.out; rw [List.length_take]; simp; omega) B11.out.size ?_; intro v66 W12 ho hg; have O12 := Lib.hid ho; have B12 := Lib.hid (below_grown B11.out hg B11.out.size (fun b hb => (O11.out.lt b hb).1)); clear ho hg))
              go_upto_region 16 with (first
                | (refine wpList_sliceS_hi rfl (.tmp 68) (.tmp 69) 26 rfl Tryz.underlying26 (fun w => by kernel_rfl) _ S rfl k rfl (holdsS_below (holdsS_own O8.out) B12.out) (by rw [← HM.out]; exact HKM.out) ?_; intro v70 h70; have H70 := Lib.hid h70; clear h70)
                | (at_builtin; refine append_ss rfl (.tmp 67) (.tmp 70) 26 rfl w9.heap.size 36 ie Tryz.underlying26 HIE.out HIZ.out _ (S.take k ++ [sh]) (S.drop k) rfl O12.out _ rfl H70.out (by have := HSL.out; rw [List.length_append, List.length_take, List.length_drop]; simp; omega) B12.out.size ?_; intro v71 W13 ho hg; have O13 := Lib.hid ho; have B13 := Lib.hid (below_grown B12.out hg B12.out.size (fun b hb => (O12.out.lt b hb).1)); clear ho hg))
              have EN := Lib.hid (show S.take k ++ [sh] ++ S.drop k = S.take k ++ sh :: S.drop k by simp)
              rw [EN.out] at O13
              go_wp2
              go_roundw
              case rel => exact ⟨i + 1, _, hi1, by go_num, own_monoS O13.out (by rw [HB0.out]; exact HB8.out.size), by rw [FS.out]; exact stable_snocV HST.out PL.out, below_next HB8.out B13.out⟩
              case measure => simp [intOf] <;> omega
            · obtain ⟨p, hp⟩ : ∃ p, p + 1 = k := ⟨k - 1, by omega⟩
              have z0 : decide ((k : Int) > 0) = true := decide_eq_true (by omega)
              have z1 : decide (0 < k) = true := decide_eq_true (by omega)
              have z2 : decide ((0 : Int) < (k : Int)) = true := decide_eq_true (by omega)
              have q3 : (k : Int) - 1 = (p : Int) := by omega
              have q5 : IntKind.i64.wrap (p : Int) = (p : Int) := by rw [IntKind.wrap_i64]; omega
              have q6 : (p : Int) < (m : Int) := by omega
              have q7 : p < m := by omega
              obtain ⟨x, hx⟩ : ∃ x, S[p]? = some x := ⟨_, List.getElem?_eq_getElem (by have := HM.out; omega)⟩
              obtain ⟨sd, sc', e9, hcs⟩ := holdsS_at (holdsS_own (own_below O4.out HBI.out)) m p HM.out.symm x hx
              cases e9
              have HPX := Lib.hid (sh_field0 hcs _ (shC_at x).1)
              have HXP := Lib.hid hx
              have HPK := Lib.hid hp
              obtain ⟨gb, hgb⟩ : ∃ g, g = Op.bytesLess sh.path x.path := ⟨_, rfl⟩
              have HGT := Lib.hid (str_gtr hgb)
              have HGB := Lib.hid hgb
              clear hx hcs hk0 hk hp hgb
              cases gb with
              | true =>
                go_upto_region 11 with fail
                refine wp_region_held_drew (S := fun w' => Below w8.heap.size w8 w') (by kernel_rfl) (drawS (Below.refl _ _)) (fun hHeld => ?_)
                generalize w8.drew = wd at hHeld ⊢
                refine take_at (i := 0) 43 rfl rfl (by kernel_rfl) (by kernel_rfl) (by kernel_rfl) (fun _ _ _ h => h) (sure_yes (by rfl) (fun w => by go_simp; try with_reducible rfl)) hHeld ?_
                simp only [List.setIfInBounds_toArray, List.set_cons_zero, List.set_cons_succ]
                refine take_at (i := 1) 44 rfl rfl (by kernel_rfl) (by kernel_rfl) (by kernel_rfl) (fun _ _ _ h => h) (sure_yes (by rfl) (fun w => by go_simp; try with_reducible rfl)) hHeld ?_
                simp only [List.setIfInBounds_toArray, List.set_cons_zero, List.set_cons_succ]
                refine take_at (i := 2) 45 rfl rfl (by kernel_rfl) (by kernel_rfl) (by kernel_rfl) (fun _ _ _ h => h) (sure_yes (by rfl) (fun w => by go_simp; try with_reducible rfl)) hHeld ?_
                simp only [List.setIfInBounds_toArray, List.set_cons_zero, List.set_cons_succ]
                refine take_at (i := 3) 46 rfl rfl (by kernel_rfl) (by kernel_rfl) (by kernel_rfl) (fun _ _ _ h => h) (sure_yes (by rfl) (fun w => by go_simp; try with_reducible rfl)) hHeld ?_
                simp only [List.setIfInBounds_toArray, List.set_cons_zero, List.set_cons_succ]
                refine take_at (i := 4) 47 rfl rfl (by kernel_rfl) (by kernel_rfl) (by kernel_rfl) (fun _ _ _ h => h) (sure_yes (by rfl) (fun w => by go_simp; try with_reducible rfl)) hHeld ?_
                simp only [List.setIfInBounds_toArray, List.set_cons_zero, List.set_cons_succ]
                refine take_at (i := 5) 48 rfl rfl (by kernel_rfl) (by kernel_rfl) (by kernel_rfl) (fun _ _ _ h => h) (sure_yes (by rfl) (fun w => by go_simp; try with_reducible rfl)) hHeld ?_
                simp only [List.setIfInBounds_toArray, List.set_cons_zero, List.set_cons_succ]
                refine take_at (i := 6) 49 rfl rfl (by kernel_rfl) (by kernel_rfl) (by kernel_rfl) (fun _ _ _ h => h) (sure_yes (by rfl) (fun w => by go_simp; try with_reducible rfl)) hHeld ?_
                simp only [List.setIfInBounds_toArray, List.set_cons_zero, List.set_cons_succ]
                refine take_at (i := 7) 50 rfl rfl (by kernel_rfl) (by kernel_rfl) (by kernel_rfl) (fun _ _ _ h => h) (sure_yes (by rfl) (fun w => by go_simp; try with_reducible rfl)) hHeld ?_
                simp only [List.setIfInBounds_toArray, List.set_cons_zero, List.set_cons_succ]
                refine take_at (i := 9) 52 rfl rfl (by kernel_rfl) (by kernel_rfl) (by kernel_rfl) (fun _ _ _ h => h) (sure_yes (by rfl) (fun w => by go_simp; try with_reducible rfl)) hHeld ?_
                simp only [List.setIfInBounds_toArray, List.set_cons_zero, List.set_cons_succ]
                refine take_at (i := 8) 51 rfl rfl (by kernel_rfl) (by kernel_rfl) (by kernel_rfl) (fun _ _ _ h => h) (str_yields12 (by rfl) 9 (.tmp 50) rfl (sd.add (p * 36)) rfl (str x.path) Tryz.underlying9 (fun w h => cell_under12 HPX.out h)) hHeld ?_
                simp only [List.setIfInBounds_toArray, List.set_cons_zero, List.set_cons_succ]
                refine take_at (i := 10) 53 rfl rfl (by kernel_rfl) (by kernel_rfl) (by kernel_rfl) (fun _ _ _ h => h) (str_yields12 (by rfl) 9 (.tmp 52) rfl ⟨sb, 0, none⟩ rfl (str sh.path) Tryz.underlying9 (fun w h => cell_under12 SPW.out h)) hHeld ?_
                simp only [List.setIfInBounds_toArray, List.set_cons_zero, List.set_cons_succ]
                refine take_at (i := 11) 54 rfl rfl (by kernel_rfl) (by kernel_rfl) (by kernel_rfl) (fun _ _ _ h => h) (sure_yes (by rfl) (op_knownS rfl rfl rfl (str_guard _ _ _ _ _) HGT.out)) hHeld ?_
                simp only [List.setIfInBounds_toArray, List.set_cons_zero, List.set_cons_succ]
                refine take_at (i := 12) 55 rfl rfl (by kernel_rfl) (by kernel_rfl) (by kernel_rfl) (fun _ _ _ h => h) (sure_yes (by rfl) (fun w => by go_simp; try with_reducible rfl)) hHeld ?_
                simp only [List.setIfInBounds_toArray, List.set_cons_zero, List.set_cons_succ]
                refine wpAnyH_done (by kernel_rfl) ?_ _
                have BI := Lib.hid (below_next HBI.out hHeld)
                clear hHeld
                go_wp2
                go_roundw
                case rel => exact ⟨p, by omega, by go_num, drop_stepV HXP.out (by rw [HPK.out]; exact HAB.out) HGB.out.symm, BI.out⟩
                case measure => have := HPK.out; simp [intOf] <;> omega
              | false =>
                have H2 := Lib.hid (show k = 0 ∨ ∃ x, S[k - 1]? = some x ∧ leK Sh.path x sh from .inr ⟨x, by rw [← HPK.out]; exact HXP.out, HGB.out.symm⟩)
                go_upto_region 11 with fail
                refine wp_region_held_drew (S := fun w' => Below w8.heap.size w8 w') (by kernel_rfl) (drawS (Below.refl _ _)) (fun hHeld => ?_)
                generalize w8.drew = wd at hHeld ⊢
                refine take_at (i := 0) 43 rfl rfl (by kernel_rfl) (by kernel_rfl) (by kernel_rfl) (fun _ _ _ h => h) (sure_yes (by rfl) (fun w => by go_simp; try with_reducible rfl)) hHeld ?_
                simp only [List.setIfInBounds_toArray, List.set_cons_zero, List.set_cons_succ]
                refine take_at (i := 1) 44 rfl rfl (by kernel_rfl) (by kernel_rfl) (by kernel_rfl) (fun _ _ _ h => h) (sure_yes (by rfl) (fun w => by go_simp; try with_reducible rfl)) hHeld ?_
                simp only [List.setIfInBounds_toArray, List.set_cons_zero, List.set_cons_succ]
                refine take_at (i := 2) 45 rfl rfl (by kernel_rfl) (by kernel_rfl) (by kernel_rfl) (fun _ _ _ h => h) (sure_yes (by rfl) (fun w => by go_simp; try with_reducible rfl)) hHeld ?_
                simp only [List.setIfInBounds_toArray, List.set_cons_zero, List.set_cons_succ]
                refine take_at (i := 3) 46 rfl rfl (by kernel_rfl) (by kernel_rfl) (by kernel_rfl) (fun _ _ _ h => h) (sure_yes (by rfl) (fun w => by go_simp; try with_reducible rfl)) hHeld ?_
                simp only [List.setIfInBounds_toArray, List.set_cons_zero, List.set_cons_succ]
                refine take_at (i := 4) 47 rfl rfl (by kernel_rfl) (by kernel_rfl) (by kernel_rfl) (fun _ _ _ h => h) (sure_yes (by rfl) (fun w => by go_simp; try with_reducible rfl)) hHeld ?_
                simp only [List.setIfInBounds_toArray, List.set_cons_zero, List.set_cons_succ]
                refine take_at (i := 5) 48 rfl rfl (by kernel_rfl) (by kernel_rfl) (by kernel_rfl) (fun _ _ _ h => h) (sure_yes (by rfl) (fun w => by go_simp; try with_reducible rfl)) hHeld ?_
                simp only [List.setIfInBounds_toArray, List.set_cons_zero, List.set_cons_succ]
                refine take_at (i := 6) 49 rfl rfl (by kernel_rfl) (by kernel_rfl) (by kernel_rfl) (fun _ _ _ h => h) (sure_yes (by rfl) (fun w => by go_simp; try with_reducible rfl)) hHeld ?_
                simp only [List.setIfInBounds_toArray, List.set_cons_zero, List.set_cons_succ]
                refine take_at (i := 7) 50 rfl rfl (by kernel_rfl) (by kernel_rfl) (by kernel_rfl) (fun _ _ _ h => h) (sure_yes (by rfl) (fun w => by go_simp; try with_reducible rfl)) hHeld ?_
                simp only [List.setIfInBounds_toArray, List.set_cons_zero, List.set_cons_succ]
                refine take_at (i := 9) 52 rfl rfl (by kernel_rfl) (by kernel_rfl) (by kernel_rfl) (fun _ _ _ h => h) (sure_yes (by rfl) (fun w => by go_simp; try with_reducible rfl)) hHeld ?_
                simp only [List.setIfInBounds_toArray, List.set_cons_zero, List.set_cons_succ]
                refine take_at (i := 8) 51 rfl rfl (by kernel_rfl) (by kernel_rfl) (by kernel_rfl) (fun _ _ _ h => h) (str_yields12 (by rfl) 9 (.tmp 50) rfl (sd.add (p * 36)) rfl (str x.path) Tryz.underlying9 (fun w h => cell_under12 HPX.out h)) hHeld ?_
                simp only [List.setIfInBounds_toArray, List.set_cons_zero, List.set_cons_succ]
                refine take_at (i := 10) 53 rfl rfl (by kernel_rfl) (by kernel_rfl) (by kernel_rfl) (fun _ _ _ h => h) (str_yields12 (by rfl) 9 (.tmp 52) rfl ⟨sb, 0, none⟩ rfl (str sh.path) Tryz.underlying9 (fun w h => cell_under12 SPW.out h)) hHeld ?_
                simp only [List.setIfInBounds_toArray, List.set_cons_zero, List.set_cons_succ]
                refine take_at (i := 11) 54 rfl rfl (by kernel_rfl) (by kernel_rfl) (by kernel_rfl) (fun _ _ _ h => h) (sure_yes (by rfl) (op_knownS rfl rfl rfl (str_guard _ _ _ _ _) HGT.out)) hHeld ?_
                simp only [List.setIfInBounds_toArray, List.set_cons_zero, List.set_cons_succ]
                refine take_at (i := 12) 55 rfl rfl (by kernel_rfl) (by kernel_rfl) (by kernel_rfl) (fun _ _ _ h => h) (sure_yes (by rfl) (fun w => by go_simp; try with_reducible rfl)) hHeld ?_
                simp only [List.setIfInBounds_toArray, List.set_cons_zero, List.set_cons_succ]
                refine wpAnyH_done (by kernel_rfl) ?_ _
                have BI := Lib.hid (below_next HBI.out hHeld)
                clear hHeld
                have S8 := Lib.hid (shAt_kept S4.out BI.out)
                have O8 := Lib.hid (own_below O4.out BI.out)
                have HB8 := Lib.hid (below_next HB4.out BI.out)
                have PL := Lib.hid (place_ok HST.out.1 HAB.out H2.out)
                generalize wd = w9 at *
                go_upto_region 13 with fail
                have HE := Lib.hid (heap_last w9 (.cells #[] 36 (0, 0)))
                have CE := Lib.hid ((Below.refl w9.heap.size w9).alloc (Nat.le_refl _) (.cells #[] 36 (0, 0)))
                go_upto_region 14 with (first
                  | (refine wpList_sliceS_lo rfl (.tmp 59) (.tmp 60) 26 rfl Tryz.underlying26 (fun w => by kernel_rfl) _ S rfl k rfl (holdsS_own (own_below O8.out CE.out)) (by rw [← HM.out]; exact HKM.out) ?_; intro v61 h61; have H61 := Lib.hid h61; clear h61)
                  | (at_builtin; refine append_ss rfl (.tmp 58) (.tmp 61) 26 rfl w9.heap.size 36 ie Tryz.underlying26 HIE.out HIZ.out _ [] (S.take k) rfl (own_emptyS HE.out (Nat.le_refl _)) _ rfl H61.out (by have := HSL.out; rw [List.length_take]; simp; omega) CE.out.size ?_; intro v62 W10 ho hg; have O10 := Lib.hid (show W10.ownsRow w9.heap.size 36 36 v62 (S.take k).length (shsC (S.take k)) from ho); have B10 := Lib.hid (below_grown CE.out hg CE.out.size (fun b hb => by cases hb; exact Nat.le_refl _)); clear ho hg))
                have S10 := Lib.hid (shAt_kept S8.out B10.out)
                go_upto_region 15 with (first
                  | (refine load_shA_on (by rfl) 36 (.tmp 6) rfl ⟨sb, 0, none⟩ rfl Tryz.underlying36 rsSize (shAt_addr S10.out) ?_)
                  | (refine build_rsM rfl 65 rfl (.tmp 64) rfl _ rfl sh rfl ?_; rintro W11 hs6 hb6 hn6; have HS11 := Lib.hid hs6; have B11 := Lib.hid (below_next B10.out hb6); have O11 := Lib.hid (own_below O10.out hb6); clear hs6 hb6 hn6)
                  | (at_builtin; refine append_shs rfl (.tmp 63) (.tmp 65) 26 rfl w9.heap.size 36 ie Tryz.underlying26 HIE.out HIZ.out _ (S.take k) [sh] rfl O11.out _ 1 1 rfl rfl (shAt_one HS11.out) (by have := HSL.out; rw [List.length_take]; simp; omega) B11.out.size ?_; intro v66 W12 ho hg; have O12 := Lib.hid ho; have B12 := Lib.hid (below_grown B11.out hg B11.out.size (fun b hb => (O11.out.lt b hb).1)); clear ho hg))
                go_upto_region 16 with (first
                  | (refine wpList_sliceS_hi rfl (.tmp 68) (.tmp 69) 26 rfl Tryz.underlying26 (fun w => by kernel_rfl) _ S rfl k rfl (holdsS_below (holdsS_own O8.out) B12.out) (by rw [← HM.out]; exact HKM.out) ?_; intro v70 h70; have H70 := Lib.hid h70; clear h70)
                  | (at_builtin; refine append_ss rfl (.tmp 67) (.tmp 70) 26 rfl w9.heap.size 36 ie Tryz.underlying26 HIE.out HIZ.out _ (S.take k ++ [sh]) (S.drop k) rfl O12.out _ rfl H70.out (by have := HSL.out; rw [List.length_append, List.length_take, List.length_drop]; simp; omega) B12.out.size ?_; intro v71 W13 ho hg; have O13 := Lib.hid ho; have B13 := Lib.hid (below_grown B12.out hg B12.out.size (fun b hb => (O12.out.lt b hb).1)); clear ho hg))
                have EN := Lib.hid (show S.take k ++ [sh] ++ S.drop k = S.take k ++ sh :: S.drop k by simp)
                rw [EN.out] at O13
                go_wp2
                go_roundw
                case rel => exact ⟨i + 1, _, hi1, by go_num, own_monoS O13.out (by rw [HB0.out]; exact HB8.out.size), by rw [FS.out]; exact stable_snocV HST.out PL.out, below_next HB8.out B13.out⟩
                case measure => simp [intOf] <;> omega
      · have q2 : (kd != 1) = true := by rw [bne, beq_eq_false_iff_ne.2 hk1]; rfl
        have HPN := Lib.hid (show putE ye = false by cases hp : putE ye with | false => rfl | true => exact absurd (hkd.symm.trans ((putE_iff ye).1 hp)) hk1)
        rw [HPN.out] at FS
        clear hkd hk1
        go_wp2
        go_roundw
        case rel => exact ⟨i + 1, S, hi1, by go_num, O2.out, by rw [FS.out]; simpa using HST.out, HB2.out⟩
        case measure => simp [intOf] <;> omega
    · obtain rfl : i = n := by omega
      have q0 : ¬ (i : Int) < (i : Int) := by omega
      have HALL := Lib.hid (show StableK Sh.path (showsE (us.map (·.1))) S by
        have h := HST.out
        rwa [List.take_of_length_le (by rw [List.length_map]; exact Nat.le_of_eq HN.out.symm)] at h)
      go_wp2
      go_ret
      exact ⟨_, rfl, ⟨S, HALL.out, holdsS_own HO.out⟩, HB.out⟩
end Go.Proofs.YtppmbdpfledejaaGreatDoor
namespace Go.Proofs.YtppmbdpfledejaaGreatDoor
theorem leK_antisymm {α : Type} {key : α → List UInt8} {x y : α} (h1 : leK key x y) (h2 : leK key y x) : key x = key y := by
  unfold leK ltK at h1 h2
  rcases cmpB_cases (key x) (key y) with ⟨-, h⟩ | ⟨-, h, -⟩ | ⟨-, h, -⟩
  · exact h
  · rw [h] at h2; cases h2
  · rw [h] at h1; cases h1
theorem sorted_eq1 {α : Type} {key : α → List UInt8} : ∀ (a b : List α), SortedK key a → SortedK key b → (∀ p, fltK key a p = fltK key b p) → a = b
  | [], [], _, _, _ => rfl
  | [], y :: b, _, _, h => by
    have h1 := h (key y)
    simp [fltK] at h1
  | x :: a, [], _, _, h => by
    have h1 := h (key x)
    simp [fltK] at h1
  | x :: a, y :: b, ha, hb, h => by
    obtain ⟨ha1, ha2⟩ := List.pairwise_cons.1 ha
    obtain ⟨hb1, hb2⟩ := List.pairwise_cons.1 hb
    have hx : x ∈ y :: b := by
      have h1 : x ∈ fltK key (y :: b) (key x) := by rw [← h (key x)]; exact List.mem_filter.2 ⟨List.mem_cons_self .., by simp⟩
      exact (List.mem_filter.1 h1).1
    have hy : y ∈ x :: a := by
      have h1 : y ∈ fltK key (x :: a) (key y) := by rw [h (key y)]; exact List.mem_filter.2 ⟨List.mem_cons_self .., by simp⟩
      exact (List.mem_filter.1 h1).1
    have h1 : leK key y x := by
      rcases List.mem_cons.1 hx with rfl | hx
      · exact leK_refl _
      · exact hb1 x hx
    have h2 : leK key x y := by
      rcases List.mem_cons.1 hy with rfl | hy
      · exact leK_refl _
      · exact ha1 y hy
    have hk : key x = key y := leK_antisymm h2 h1
    have h3 := h (key x)
    have e1 : fltK key (x :: a) (key x) = x :: fltK key a (key x) := by unfold fltK; rw [List.filter_cons, if_pos (by simp)]
    have e2 : fltK key (y :: b) (key x) = y :: fltK key b (key x) := by unfold fltK; rw [List.filter_cons, if_pos (by rw [hk]; simp)]
    rw [e1, e2] at h3
    obtain ⟨h4, h5⟩ := List.cons.inj h3
    subst h4
    congr 1
    refine sorted_eq1 a b ha2 hb2 fun p => ?_
    have h6 := h p
    unfold fltK at h6 h5 ⊢
    rw [List.filter_cons, List.filter_cons] at h6
    by_cases hp : (key x == p) = true
    · rw [if_pos hp, if_pos hp] at h6
      exact (List.cons.inj h6).2
    · rw [if_neg hp, if_neg hp] at h6
      exact h6
theorem stable_one_list {α : Type} {key : α → List UInt8} {l a b : List α} (ha : StableK key l a) (hb : StableK key l b) : a = b :=
  sorted_eq1 a b ha.1 hb.1 fun p => (ha.2.1 p).trans (hb.2.1 p).symm
end Go.Proofs.YtppmbdpfledejaaGreatDoor
namespace Go.Proofs.YtppmbdpfledejaaGreatDoor
open Go.RowKit
set_option linter.unusedSimpArgs false in
set_option maxRecDepth 100000 in
set_option maxHeartbeats 16000000 in
theorem viewShows_walk (us : List (Ev × Value)) (hf : us.length ≤ 60 → FitV us) (p : List UInt8) (v : Value) (w : World) (hv : HoldsU w v us) (hd : DepsU w us) (hT : PowTab w) (tab : Tab w) : Calls Tryz.prog 3 #[v, .string (str p)] w fun x w' => x = .returned (.bool true) ∧ Below w.heap.size w w' := by
  obtain ⟨n, hn⟩ : ∃ n, n = us.length := ⟨_, rfl⟩
  have HN := Lib.hid hn
  obtain ⟨ao, cap, hvs⟩ := holdsU_shape hv n hn
  subst hvs
  have HV := Lib.hid hv
  have HD := Lib.hid hd
  have HF := Lib.hid hf
  have HT := Lib.hid hT
  have TB := Lib.hid tab
  clear hf hv hd hT tab hn
  go_enter Tryz.func3, Tryz.ntmps3
  go_upto_region 2 with (first
    | (go_at_call 7; refine (awake14_any _ HT.out TB.out).mono ?_; rintro x w1 ⟨rfl, hb⟩; have B1 := Lib.hid hb; clear hb))
  by_cases hn6 : n ≤ 60
  · have q1 : ¬ (n : Int) > 60 := by omega
    have q2 : ¬ (60 : Int) < (n : Int) := by omega
    have HFU := Lib.hid (HF.out (by rw [← HN.out]; exact hn6))
    have HL := Lib.hid (show us.length ≤ 20000 by rw [← HN.out]; omega)
    go_upto_region 5 with (first
      | (go_at_call 8; refine (view_wide us HL.out HFU.out _ w1 (holdsU_below HV.out B1.out) (depsU_below HD.out B1.out) (powTab_below HT.out B1.out)).mono ?_; rintro x w2 ⟨y2, rfl, hy, hb⟩; have HY2 := Lib.hid hy; have B2 := Lib.hid (below_next B1.out hb); clear hy hb))
    go_upto_region 6 with (first
      | (go_at_call 9; refine (refView_any us HL.out HFU.out _ w2 (holdsU_below HV.out B2.out) (depsU_below HD.out B2.out)).mono ?_; rintro x w3 ⟨y3, rfl, hy, hb⟩; have HY3 := Lib.hid hy; have C3 := Lib.hid hb; have B3 := Lib.hid (below_next B2.out hb); clear hy hb))
    obtain ⟨S, hs1, hy2⟩ := HY2.out
    obtain ⟨S', hs2, hy3⟩ := HY3.out
    have he : S' = S := stable_one_list hs2 hs1
    subst he
    have HSL := Lib.hid (show S'.length ≤ 50000 by rw [hs1.2.2]; unfold showsE; rw [List.length_map]; exact Nat.le_trans (List.length_filter_le _ _) (by rw [List.length_map]; have := HL.out; omega))
    have Y2 := Lib.hid (holdsS_below hy2 C3.out)
    have Y3 := Lib.hid hy3
    clear hs1 hs2 hy2 hy3 HY2 HY3
    go_upto_region 7 with (first
      | (go_at_call 10; refine (main_any S' HSL.out p y2 w3 Y2.out).mono ?_; rintro x w4 ⟨rfl, hb⟩; have C4 := Lib.hid hb; clear hb; unfold mainV)
      | (refine store_new rfl 33 (.tmp 8) (.tmp 25) rfl rfl w4 _ (shC ((mainS S' p).getD zeroSh)) 33 rfl rfl rfl (by rw [shSize, shC_size]) (by rw [shC_size]; rfl) (shC_one _) ?_; rintro W5 hg hb hlt; have S5 := Lib.hid (show ShAt W5 w4.heap.size 33 ((mainS S' p).getD zeroSh) from hg); have C5 := Lib.hid (below_next C4.out hb); clear hg hb hlt))
    have Y35 := Lib.hid (holdsS_below Y3.out C5.out)
    go_upto_region 8 with (first
      | (go_at_call 11; refine (refMain_any S' HSL.out p y3 W5 Y35.out).mono ?_; rintro x w6 ⟨rfl, hb⟩; have C6 := Lib.hid hb; clear hb; unfold mainV)
      | (refine store_new rfl 36 (.tmp 10) (.tmp 31) rfl rfl w6 _ (shC ((mainS S' p).getD zeroSh)) 36 rfl rfl rfl (by rw [rsSize, shC_size]) (by rw [shC_size]; rfl) (shC_one _) ?_; rintro W7 hg hb hlt; have S7 := Lib.hid (show ShAt W7 w6.heap.size 36 ((mainS S' p).getD zeroSh) from hg); have C7 := Lib.hid (below_next C6.out hb); clear hg hb hlt))
    have S57 := Lib.hid (shAt_kept S5.out C7.out)
    have C37 := Lib.hid (below_next C5.out C7.out)
    obtain ⟨ms, hms⟩ : ∃ s, s = (mainS S' p).getD zeroSh := ⟨_, rfl⟩
    obtain ⟨mb, hmb⟩ : ∃ b, b = (mainS S' p).isSome := ⟨_, rfl⟩
    rw [← hms] at S57 S7 ⊢
    rw [← hmb]
    clear hms hmb
    have EQS := Lib.hid (eql_refSh ms)
    obtain ⟨b5, hb5⟩ : ∃ b, b = w4.heap.size := ⟨_, rfl⟩
    obtain ⟨b7, hb7⟩ : ∃ b, b = w6.heap.size := ⟨_, rfl⟩
    rw [← hb5] at S57 ⊢
    rw [← hb7] at S7 ⊢
    clear hb5 hb7 S5
    go_wp2_with (first
      | (go_at_call 13; refine (real_any S' HSL.out y2 W7 (holdsS_below Y2.out C37.out)).mono ?_; rintro x w8 ⟨y8, rfl, hy, hb⟩; have Y8 := Lib.hid hy; have C8 := Lib.hid hb; have C38 := Lib.hid (below_next C37.out hb); clear hy hb)
      | (go_at_call 12; refine (sameS_any S' HSL.out y8 y3 w8 Y8.out (holdsS_below Y3.out C38.out)).mono ?_; rintro x w9 ⟨rfl, hb⟩; have C9 := Lib.hid (below_next C8.out hb); have C39 := Lib.hid (below_next C38.out hb); have S59 := Lib.hid (shAt_kept S57.out C9.out); have S79 := Lib.hid (shAt_kept S7.out C9.out); clear hb)
      | (refine load_shA_on (by rfl) 33 (.tmp 8) rfl ⟨b5, 0, none⟩ rfl Tryz.underlying33 shSize (shAt_addr S59.out) ?_)
      | (refine load_shA_on (by rfl) 36 (.tmp 10) rfl ⟨b7, 0, none⟩ rfl Tryz.underlying36 rsSize (shAt_addr S79.out) ?_)
      | (refine binop_on (by rfl) .eql 36 36 (.tmp 41) (.tmp 42) rfl _ _ _ rfl rfl (rs_guard _ _ _ _ _) EQS.out ?_))
    cases mb <;> (go_wp2; go_ret; exact ⟨rfl, below_next B3.out C39.out⟩)
  · have q1 : (n : Int) > 60 := by omega
    have q2 : (60 : Int) < (n : Int) := by omega
    go_wp2
    go_ret
    exact ⟨rfl, B1.out⟩
end Go.Proofs.YtppmbdpfledejaaGreatDoor
