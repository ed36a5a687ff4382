/-
Texts that all claims of this seat share, part 5: OpCall, SortIns, SortSwap.
-/
import Derived.Test.YtppmbdpfledejaaGreatDoorPk4
namespace Go.Proofs.YtppmbdpfledejaaGreatDoor
open Go.RowKit
theorem opH_c1 {P : Program} {md : Region.Mode} {ops : Array Oper} {Q : Exit → Act → World → Prop} {S : World → Prop} {fuel : Nat} {listed : Array Bool} {ts : Array Value} {ds : List Deferred} {w : World} {i : Nat} {o : Oper} (d : Nat) (hoi : ops[i]? = some o) (hd : o.dst = some d) (hw : Region.wanted o (yielded ops ts) = true) (f : FuncId) (c x : Operand) (t : TypeId)
    (ho : o.op = .call { callee := .value c, args := #[x], argTypes := #[t] }) (hc : Act.eval { tmps := ts, defers := ds } c = .func (.func f) #[] #[]) (v : Value) (hx : Act.eval { tmps := ts, defers := ds } x = v) (eg : ∀ vs w, (callFunc f vs).run P w = .ok (.enter f vs) w) (Post : Ending → World → Prop) (hcall : Calls P f #[v] w Post)
    (h : ∀ e w', Post e w' → ∃ r, e = .returned r ∧ S w' ∧ wpAnyH P md ops Q S fuel (listed.setIfInBounds i true) { tmps := ts.setIfInBounds d r, defers := ds } w') : OpH P md ops Q S fuel listed { tmps := ts, defers := ds } w i :=
  opH_call1 hoi hw f c x t ho hc v hx eg Post hcall fun e w' hp => by
    obtain ⟨r, h1, h2, h3⟩ := h e w' hp
    exact ⟨r, h1, h2, by rw [hd]; exact h3⟩
theorem opH_c2 {P : Program} {md : Region.Mode} {ops : Array Oper} {Q : Exit → Act → World → Prop} {S : World → Prop} {fuel : Nat} {listed : Array Bool} {ts : Array Value} {ds : List Deferred} {w : World} {i : Nat} {o : Oper} (d : Nat) (hoi : ops[i]? = some o) (hd : o.dst = some d) (hw : Region.wanted o (yielded ops ts) = true) (f : FuncId) (c x y : Operand) (t u : TypeId)
    (ho : o.op = .call { callee := .value c, args := #[x, y], argTypes := #[t, u] }) (hc : Act.eval { tmps := ts, defers := ds } c = .func (.func f) #[] #[]) (v z : Value) (hx : Act.eval { tmps := ts, defers := ds } x = v) (hy : Act.eval { tmps := ts, defers := ds } y = z) (eg : ∀ vs w, (callFunc f vs).run P w = .ok (.enter f vs) w) (Post : Ending → World → Prop) (hcall : Calls P f #[v, z] w Post)
    (h : ∀ e w', Post e w' → ∃ r, e = .returned r ∧ S w' ∧ wpAnyH P md ops Q S fuel (listed.setIfInBounds i true) { tmps := ts.setIfInBounds d r, defers := ds } w') : OpH P md ops Q S fuel listed { tmps := ts, defers := ds } w i :=
  opH_call2 hoi hw f c x y t u ho #[] hc v z hx hy eg Post hcall fun e w' hp => by
    obtain ⟨r, h1, h2, h3⟩ := h e w' hp
    exact ⟨r, h1, h2, by rw [hd]; exact h3⟩
end Go.Proofs.YtppmbdpfledejaaGreatDoor
namespace Go.Proofs.YtppmbdpfledejaaGreatDoor
open Go.RowKit
set_option maxRecDepth 100000 in
theorem shSize : (Tryz.prog.info? 33).map (·.size) = some 36 := by kernel_rfl
theorem box_sh (w : World) (T : TypeId) (s : Sh) : ∀ j u, (shC s)[j]? = some u → (w.alloc (.cells (shC s) T (0, 0))).cell? ⟨w.heap.size, j, none⟩ = some u := fun j u hu => by
  have h := heap_last w (.cells (shC s) T (0, 0))
  simp only [World.cell?, h]; exact hu
set_option maxRecDepth 100000 in
set_option maxHeartbeats 16000000 in
theorem cmpSh_any (s t : Sh) (w : World) : Calls Tryz.prog 42 #[.agg (shC s), .agg (shC t)] w fun x w' => x = .returned (.int .i64 (cmpB s.path t.path)) ∧ Below w.heap.size w w' := by
  have h1 := box_sh w 33 s
  have h2 := box_sh (w.alloc (.cells (shC s) 33 (0, 0))) 33 t
  have b1 := (Below.refl w.heap.size w).alloc (Nat.le_refl _) (.cells (shC s) 33 (0, 0))
  have b2 := (Below.refl (w.alloc (.cells (shC s) 33 (0, 0))).heap.size (w.alloc (.cells (shC s) 33 (0, 0)))).alloc (Nat.le_refl _) (.cells (shC t) 33 (0, 0))
  have B0 := Lib.hid (below_next b1 b2)
  have c1 := cell_under12 (h1 0 _ (shC_at s).1) b2
  have c2 := h2 0 _ (shC_at t).1
  have CS := Lib.hid (fun w => cmpStr_any s.path t.path w)
  obtain ⟨c, hc⟩ : ∃ c, cmpB s.path t.path = c := ⟨_, rfl⟩
  rw [hc] at CS ⊢
  clear h1 h2 b1 b2 hc
  go_enter Tryz.func42, Tryz.ntmps42
  go_upto_region 1 with fail
  simp only [size_of_alloc] at c2
  generalize (w.alloc (.cells (shC s) 33 (0, 0))).alloc (.cells (shC t) 33 (0, 0)) = W0 at *
  go_wp2_with (first
    | (go_at_call 43; refine (CS.out _).mono ?_; rintro x w1 ⟨rfl, rfl⟩))
  go_ret
  exact ⟨rfl, B0.out⟩
/-- A function that compares what is shown by its paths. -/
def CmpF (F : FuncId) : Prop := (∀ (s t : Sh) (w : World), Calls Tryz.prog F #[.agg (shC s), .agg (shC t)] w fun x w' => x = .returned (.int .i64 (cmpB s.path t.path)) ∧ Below w.heap.size w w') ∧ ∀ vs w, (callFunc F vs).run Tryz.prog w = .ok (.enter F vs) w
theorem cmpF_view : CmpF 42 := ⟨cmpSh_any, (enters_of Tryz.func42 (by kernel_rfl) rfl)⟩
theorem swap_sets {α : Type} (P : List α) (y x : α) (R : List α) (k : Nat) (hk : k = P.length) : ((P ++ y :: x :: R).set (k + 1) y).set k x = P ++ x :: y :: R := by
  subst hk
  rw [List.set_append_right _ _ (by omega), List.set_append_right _ _ (by omega)]
  simp
theorem at_pre {α : Type} (P : List α) (x : α) (R : List α) (k : Nat) (hk : k = P.length) : (P ++ x :: R)[k]? = some x := by
  subst hk; rw [List.getElem?_append_right (Nat.le_refl _)]; simp
theorem seg_snoc {α : Type} {l : List α} {a i : Nat} {x : α} (hx : l[i]? = some x) (hai : a ≤ i) : (l.take (i + 1)).drop a = (l.take i).drop a ++ [x] := by
  rw [List.take_add_one, hx, List.drop_append]
  have hi := (List.getElem?_eq_some_iff.1 hx).1
  rw [List.length_take, Nat.min_eq_left (by omega), show a - i = 0 by omega]; rfl
theorem drop_at {α : Type} {l : List α} {i : Nat} {x : α} (hx : l[i]? = some x) : l.drop i = x :: l.drop (i + 1) := by
  obtain ⟨hi, rfl⟩ := List.getElem?_eq_some_iff.1 hx
  exact List.drop_eq_getElem_cons hi
theorem stable_snoc {key : Sh → List UInt8} {l S S' : List Sh} {x : Sh} (h : StableK key l S) (h2 : StableK key (S ++ [x]) S') : StableK key (l ++ [x]) S' :=
  ⟨h2.1, fun p => by rw [h2.2.1, fltK_append, fltK_append, h.2.1], by rw [h2.2.2, List.length_append, List.length_append, h.2.2]⟩
theorem lt_cmp (s t : Sh) : decide (cmpB s.path t.path < 0) = ltK Sh.path s t := by
  unfold ltK
  rcases cmpB_cases s.path t.path with ⟨h1, h2⟩ | ⟨h1, h2, -⟩ | ⟨h1, h2, -⟩
  · rw [h1, h2, bytesLess_irrefl]; rfl
  · rw [h1, h2]; rfl
  · rw [h1, bl_asymm h2]; rfl
theorem sorted_last {key : Sh → List UInt8} {A : List Sh} {y x : Sh} (h : SortedK key (A ++ [y])) (hx : ltK key x y = false) : ∀ z ∈ A ++ [y], leK key z x := by
  obtain ⟨h1, h2, h3⟩ := sorted_append.1 h
  intro z hz
  rcases List.mem_append.1 hz with hz | hz
  · exact leK_trans (h3 z hz y (by simp)) hx
  · rw [List.mem_singleton.1 hz]; exact hx
theorem opH_shA {P : Program} {md : Region.Mode} {ops : Array Oper} {Q : Exit → Act → World → Prop} {S : World → Prop} {fuel : Nat} {listed : Array Bool} {ts : Array Value} {ds : List Deferred} {w : World} {i : Nat} {o : Oper} (d : Nat) (hoi : ops[i]? = some o) (hd : o.dst = some d) (hw : Region.wanted o (yielded ops ts) = true)
    (ty : TypeId) (x : Operand) (ho : o.op = .load ty x) (A : Addr) (hx : Act.eval { tmps := ts, defers := ds } x = .pointer (some A)) {s : Sh} {fs : Array Field} (hu : P.underlying ty = some (.struct fs)) (hi : (P.info? ty).map (·.size) = some 36) (hc : ∀ j u, (shC s)[j]? = some u → w.cell? (A.add j) = some u)
    (hS : S w) (h : wpAnyH P md ops Q S fuel (listed.setIfInBounds i true) { tmps := ts.setIfInBounds d (.agg (shC s)), defers := ds } w) : OpH P md ops Q S fuel listed { tmps := ts, defers := ds } w i :=
  opH_list hoi (load_shA_on hw ty x ho A hx hu hi hc (opH_end hS (by rw [hd]; exact h)))
theorem solo_in {g B : Nat} {w0 w w' : World} (hb : Below B w0 w) (h : Solo g w w') (hg : B ≤ g) : Below B w0 w' :=
  hb.trans ⟨h.os, h.tape, h.output, Nat.le_of_eq h.size.symm, fun j hj => h.block j (by omega)⟩
theorem below_in {B : Nat} {w w1 w2 : World} (h1 : Below B w w1) (hB : B ≤ w.heap.size) (h2 : Below w1.heap.size w1 w2) : Below B w w2 := h1.trans (h2.mono (Nat.le_trans hB h1.size))
theorem own_in {B : Nat} {T : TypeId} {g n cap : Nat} {xs : List Value} {w : World} (h : w.ownsRow B T 36 (.slice (some ⟨g, 0, none⟩) n cap) n xs) : B ≤ g ∧ B ≤ w.heap.size := by
  rcases h.2 with ⟨h0, -⟩ | ⟨g', cap', cur, e, h1, h2, -⟩
  · cases h0
  · simp only [Value.slice.injEq, Option.some.injEq, Addr.mk.injEq] at e
    obtain ⟨⟨rfl, -⟩, -, rfl⟩ := e
    exact ⟨h1, Nat.le_trans h1 (Nat.le_of_lt (Array.getElem?_eq_some_iff.1 h2).1)⟩
theorem own_sh {B : Nat} {T : TypeId} {g n cap : Nat} {l : List Sh} {w : World} (h : w.ownsRow B T 36 (.slice (some ⟨g, 0, none⟩) n cap) n (shsC l)) (k : Nat) (s : Sh) (hs : l[k]? = some s) : ∀ j u, (shC s)[j]? = some u → w.cell? ((⟨g, k * 36, none⟩ : Addr).add j) = some u := fun j u hu => by
  have e : (⟨g, k * 36, none⟩ : Addr).add j = (⟨g, 0, none⟩ : Addr).add (k * 36 + j) := by
    simp only [Addr.add, Nat.zero_add]
    by_cases hj : j = 0
    · subst hj
      rw [if_pos rfl]
      split
      · next h => rw [show k * 36 = 0 by omega]
      · rfl
    · rw [if_neg hj, if_neg (by omega)]
  rw [e]
  exact h.cells rfl (k * 36 + j) u (shsC_at l k s hs j u hu)
set_option linter.unusedSimpArgs false in
set_option maxRecDepth 100000 in
set_option maxHeartbeats 16000000 in
theorem insertSh_any (F : FuncId) (hF : CmpF F) (l : List Sh) (a b n cap g B : Nat) (hn : n = l.length) (hn5 : n ≤ 50000) (hab : a ≤ b) (hbn : b ≤ n) (w : World) (hw : w.ownsRow B 33 36 (.slice (some ⟨g, 0, none⟩) n cap) n (shsC l)) :
    Calls Tryz.prog 104 #[.slice (some ⟨g, 0, none⟩) n cap, .int .i64 (a : Int), .int .i64 (b : Int), .func (.func F) #[] #[]] w fun x w' => x = .returned (.tuple #[]) ∧ ∃ S, StableK Sh.path ((l.take b).drop a) S ∧ w'.ownsRow B 33 36 (.slice (some ⟨g, 0, none⟩) n cap) n (shsC (l.take a ++ S ++ l.drop b)) ∧ Below B w w' := by
  have HN := Lib.hid hn
  obtain ⟨hBg, hB0⟩ := own_in hw
  have HBG := Lib.hid hBg
  have HB0 := Lib.hid hB0
  have HW := Lib.hid hw
  have CMF := Lib.hid hF
  have qa1 : IntKind.i64.wrap ((a : Int) + 1) = ((a + 1 : Nat) : Int) := by rw [IntKind.wrap_i64]; omega
  clear hn hw hBg hB0 hF
  go_enter Tryz.func104, Tryz.ntmps104
  go_wp2
  go_loopw [8, 9] (fun c d wr => ∃ (i m : Nat) (S : List Sh), c = .int .i64 (i : Int) ∧ a + 1 ≤ i ∧ i ≤ b + 1 ∧ (i ≤ b → m = i) ∧ (b ≤ i → m = b) ∧ StableK Sh.path ((l.take m).drop a) S ∧ wr.ownsRow B 33 36 (.slice (some ⟨g, 0, none⟩) n cap) n (shsC (l.take a ++ S ++ l.drop m)) ∧ Below B w wr) (fun c _ _ => b + 1 - (intOf c).toNat)
  case atStart =>
    by_cases h : a < b
    · obtain ⟨x, hx⟩ : ∃ x, l[a]? = some x := ⟨_, List.getElem?_eq_getElem (by have := HN.out; omega)⟩
      refine ⟨a + 1, a + 1, [x], rfl, by omega, by omega, fun _ => rfl, fun h2 => by omega, ?_, ?_, Below.refl _ _⟩
      · rw [seg_snoc hx (Nat.le_refl _), List.drop_take, Nat.sub_self, List.take_zero, List.nil_append]
        exact stable_sorted (List.pairwise_singleton _ _)
      · rw [List.append_assoc, List.singleton_append, ← drop_at hx, List.take_append_drop]; exact HW.out
    · refine ⟨a + 1, b, [], rfl, by omega, by omega, fun h2 => by omega, fun _ => rfl, ?_, ?_, Below.refl _ _⟩
      · rw [show a = b by omega, List.drop_take, Nat.sub_self, List.take_zero]; exact stable_nil
      · rw [List.append_nil, show a = b by omega, List.take_append_drop]; exact HW.out
  case round =>
    obtain ⟨i, m, S, rfl, hi1, hi2, hm1, hm2, hst, hown, hb⟩ := hrel
    have HB1 := Lib.hid hb
    clear hb
    by_cases hib : i < b
    · rw [hm1 (by omega)] at hst hown
      obtain ⟨x, hx⟩ : ∃ x, l[i]? = some x := ⟨_, List.getElem?_eq_getElem (by have := HN.out; omega)⟩
      have HX := Lib.hid hx
      have hSL : S.length = i - a := by rw [hst.2.2, List.length_drop, List.length_take]; have := HN.out; omega
      have HSL := Lib.hid hSL
      have HST := Lib.hid hst
      have HOW := Lib.hid hown
      clear hm1 hm2 hst hown hx hSL
      have q1 : (i : Int) < (b : Int) := by omega
      have qi1 : IntKind.i64.wrap ((i : Int) + 1) = ((i + 1 : Nat) : Int) := by rw [IntKind.wrap_i64]; omega
      generalize wr = w1 at *
      go_wp2
      go_loopw [9] (fun c wr => ∃ (j : Nat) (A R : List Sh), c = .int .i64 (j : Int) ∧ j = a + A.length ∧ A ++ R = S ∧ (∀ r ∈ R, ltK Sh.path x r = true) ∧ wr.ownsRow B 33 36 (.slice (some ⟨g, 0, none⟩) n cap) n (shsC (l.take a ++ A ++ x :: (R ++ l.drop (i + 1)))) ∧ Below B w wr) (fun c _ => (intOf c).toNat)
      case atStart =>
        refine ⟨i, S, [], rfl, by have := HSL.out; omega, List.append_nil _, (fun r h => by cases h), ?_, HB1.out⟩
        rw [List.nil_append, ← drop_at HX.out]; exact HOW.out
      case round =>
        obtain ⟨j, A, R, rfl, hj, hAR, hR, ho, hb2⟩ := hrel
        have HAR := Lib.hid hAR
        have HR := Lib.hid hR
        have HB2 := Lib.hid hb2
        have hji : j ≤ i := by
          have h1 := congrArg List.length hAR
          rw [List.length_append, HSL.out] at h1; omega
        clear hAR hR hb2
        by_cases haj : a < j
        · obtain ⟨A0, y, rfl⟩ : ∃ A0 y, A = A0 ++ [y] := by
            rcases List.eq_nil_or_concat A with h | ⟨A0, y, h⟩
            · rw [h] at hj; simp at hj; omega
            · exact ⟨A0, y, by rw [h, List.concat_eq_append]⟩
          obtain ⟨p, hp⟩ : ∃ p, p = a + A0.length := ⟨_, rfl⟩
          have hjp : j = p + 1 := by rw [hj, List.length_append, List.length_singleton, hp]; rfl
          obtain ⟨P, hP⟩ : ∃ P, P = l.take a ++ A0 := ⟨_, rfl⟩
          obtain ⟨U, hU⟩ : ∃ U, U = R ++ l.drop (i + 1) := ⟨_, rfl⟩
          have hPl : p = P.length := by rw [hP, List.length_append, List.length_take]; have := HN.out; omega
          have ho2 : wr.ownsRow B 33 36 (.slice (some ⟨g, 0, none⟩) n cap) n (shsC (P ++ y :: x :: U)) := by
            have e : l.take a ++ (A0 ++ [y]) ++ x :: (R ++ l.drop (i + 1)) = P ++ y :: x :: U := by rw [hP, hU]; simp
            rw [← e]; exact ho
          have HIY := Lib.hid (show (P ++ y :: x :: U)[p]? = some y from at_pre P y _ p hPl)
          have HIX := Lib.hid (show (P ++ y :: x :: U)[j]? = some x by
            have h := at_pre (P ++ [y]) x U j (by rw [List.length_append, List.length_singleton]; omega)
            rw [List.append_assoc] at h; exact h)
          have HLN := Lib.hid (show n = (P ++ y :: x :: U).length by
            have h := ho2.1
            rw [shsC_length] at h
            exact (Nat.eq_of_mul_eq_mul_right (by decide) h).symm)
          have CX := Lib.hid (own_sh ho2 j x HIX.out)
          have CY := Lib.hid (own_sh ho2 p y HIY.out)
          have HO2 := Lib.hid ho2
          have HP := Lib.hid hP
          have HU := Lib.hid hU
          have HPL := Lib.hid hPl
          have HPA := Lib.hid hp
          have HJP := Lib.hid hjp
          have q2 : (j : Int) > (a : Int) := by omega
          have q3 : (j : Int) < (n : Int) := by omega
          have q4 : j < n := by omega
          have q5 : (j : Int) - 1 = (p : Int) := by omega
          have q6 : IntKind.i64.wrap (p : Int) = (p : Int) := by rw [IntKind.wrap_i64]; omega
          have q7 : (p : Int) < (n : Int) := by omega
          have q8 : p < n := by omega
          obtain ⟨c, hc⟩ : ∃ c, cmpB x.path y.path = c := ⟨_, rfl⟩
          have HC := Lib.hid hc
          have HLT := Lib.hid (lt_cmp x y)
          clear ho ho2 hP hU hPl hp hc hj
          generalize wr = w2 at *
          by_cases hc0 : c < 0
          · have q9 : decide (c < 0) = true := decide_eq_true hc0
            have HXY := Lib.hid (show ltK Sh.path x y = true by rw [← HLT.out, HC.out]; exact q9)
            clear hc0 hjp
            go_upto_region 4 with fail
            refine wp_region_held_drew (S := fun w' => Below w2.heap.size w2 w') (by kernel_rfl) (drawS (Below.refl _ _)) (fun hHeld => ?_)
            generalize w2.drew = wd at hHeld ⊢
            refine take_at (i := 0) 18 rfl rfl (by kernel_rfl) (by kernel_rfl) (by kernel_rfl) (fun _ _ _ h => h) (sure_yes (by rfl) (fun w => by go_simp; try with_reducible rfl)) hHeld ?_
            simp only [List.setIfInBounds_toArray, List.set_cons_zero, List.set_cons_succ]
            refine take_at (i := 1) 19 rfl rfl (by kernel_rfl) (by kernel_rfl) (by kernel_rfl) (fun _ _ _ h => h) (sure_yes (by rfl) (fun w => by go_simp; try with_reducible rfl)) hHeld ?_
            simp only [List.setIfInBounds_toArray, List.set_cons_zero, List.set_cons_succ]
            refine take_at (i := 2) 20 rfl rfl (by kernel_rfl) (by kernel_rfl) (by kernel_rfl) (fun _ _ _ h => h) (sure_yes (by rfl) (fun w => by go_simp; try with_reducible rfl)) hHeld ?_
            simp only [List.setIfInBounds_toArray, List.set_cons_zero, List.set_cons_succ]
            refine take_at (i := 3) 21 rfl rfl (by kernel_rfl) (by kernel_rfl) (by kernel_rfl) (fun _ _ _ h => h) (sure_yes (by rfl) (fun w => by go_simp; try with_reducible rfl)) hHeld ?_
            simp only [List.setIfInBounds_toArray, List.set_cons_zero, List.set_cons_succ]
            refine take_at (i := 4) 22 rfl rfl (by kernel_rfl) (by kernel_rfl) (by kernel_rfl) (fun _ _ _ h => h) (sure_yes (by rfl) (fun w => by go_simp; try with_reducible rfl)) hHeld ?_
            simp only [List.setIfInBounds_toArray, List.set_cons_zero, List.set_cons_succ]
            refine take_at (i := 5) 23 rfl rfl (by kernel_rfl) (by kernel_rfl) (by kernel_rfl) (fun _ _ _ h => h) (sure_yes (by rfl) (fun w => by go_simp; try with_reducible rfl)) hHeld ?_
            simp only [List.setIfInBounds_toArray, List.set_cons_zero, List.set_cons_succ]
            refine take_at (i := 6) 24 rfl rfl (by kernel_rfl) (by kernel_rfl) (by kernel_rfl) (fun _ _ _ h => h) (sure_yes (by rfl) (fun w => by go_simp; try with_reducible rfl)) hHeld ?_
            simp only [List.setIfInBounds_toArray, List.set_cons_zero, List.set_cons_succ]
            refine take_at (i := 7) 25 rfl rfl (by kernel_rfl) (by kernel_rfl) (by kernel_rfl) (fun _ _ _ h => h) (sure_yes (by rfl) (fun w => by go_simp; try with_reducible rfl)) hHeld ?_
            simp only [List.setIfInBounds_toArray, List.set_cons_zero, List.set_cons_succ]
            refine take_at (i := 9) 27 rfl rfl (by kernel_rfl) (by kernel_rfl) (by kernel_rfl) (fun _ _ _ h => h) (sure_yes (by rfl) (fun w => by go_simp; try with_reducible rfl)) hHeld ?_
            simp only [List.setIfInBounds_toArray, List.set_cons_zero, List.set_cons_succ]
            refine take_at (i := 10) 28 rfl rfl (by kernel_rfl) (by kernel_rfl) (by kernel_rfl) (fun _ _ _ h => h) (sure_yes (by rfl) (fun w => by go_simp; try with_reducible rfl)) hHeld ?_
            simp only [List.setIfInBounds_toArray, List.set_cons_zero, List.set_cons_succ]
            refine take_at (i := 11) 29 rfl rfl (by kernel_rfl) (by kernel_rfl) (by kernel_rfl) (fun _ _ _ h => h) (sure_yes (by rfl) (fun w => by go_simp; try with_reducible rfl)) hHeld ?_
            simp only [List.setIfInBounds_toArray, List.set_cons_zero, List.set_cons_succ]
            refine take_at (i := 12) 30 rfl rfl (by kernel_rfl) (by kernel_rfl) (by kernel_rfl) (fun _ _ _ h => h) (sure_yes (by rfl) (fun w => by go_simp; try with_reducible rfl)) hHeld ?_
            simp only [List.setIfInBounds_toArray, List.set_cons_zero, List.set_cons_succ]
            refine take_at (i := 8) 26 rfl rfl (by kernel_rfl) (by kernel_rfl) (by kernel_rfl) (fun _ _ _ h => h) (shA_yields (by rfl) 33 (.tmp 25) rfl ⟨g, j * 36, none⟩ rfl Tryz.underlying33 shSize (fun w h j u hu => cell_under12 (CX.out j u hu) h)) hHeld ?_
            simp only [List.setIfInBounds_toArray, List.set_cons_zero, List.set_cons_succ]
            refine take_at (i := 13) 31 rfl rfl (by kernel_rfl) (by kernel_rfl) (by kernel_rfl) (fun _ _ _ h => h) (shA_yields (by rfl) 33 (.tmp 30) rfl ⟨g, p * 36, none⟩ rfl Tryz.underlying33 shSize (fun w h j u hu => cell_under12 (CY.out j u hu) h)) hHeld ?_
            simp only [List.setIfInBounds_toArray, List.set_cons_zero, List.set_cons_succ]
            refine ready_one 14 (by kernel_rfl) ?_
            refine opH_c2 32 rfl rfl (by rfl) F (.tmp 22) (.tmp 26) (.tmp 31) 33 33 rfl rfl (.agg (shC x)) (.agg (shC y)) rfl rfl CMF.out.2 _ (CMF.out.1 x y _) ?_
            rintro x wz ⟨rfl, hb⟩
            refine ⟨_, rfl, below_next hHeld hb, ?_⟩
            replace hHeld := below_next hHeld hb
            rw [HC.out]
            clear hb
            simp only [List.setIfInBounds_toArray, List.set_cons_zero, List.set_cons_succ]
            refine take_at (i := 15) 33 rfl rfl (by kernel_rfl) (by kernel_rfl) (by kernel_rfl) (fun _ _ _ h => h) (sure_yes (by rfl) (fun w => by go_simp; try with_reducible rfl)) hHeld ?_
            simp only [List.setIfInBounds_toArray, List.set_cons_zero, List.set_cons_succ]
            refine take_at (i := 16) 34 rfl rfl (by kernel_rfl) (by kernel_rfl) (by kernel_rfl) (fun _ _ _ h => h) (sure_yes (by rfl) (fun w => by go_simp; try with_reducible rfl)) hHeld ?_
            simp only [List.setIfInBounds_toArray, List.set_cons_zero, List.set_cons_succ]
            refine wpAnyH_done (by kernel_rfl) ?_ _
            have Z := Lib.hid hHeld
            clear hHeld
            have OWN := Lib.hid (own_below HO2.out Z.out)
            have BEL := Lib.hid (below_in HB2.out HB0.out Z.out)
            generalize wz = w3 at *
            go_upto_region 6 with fail
            have OD := Lib.hid (own_below OWN.out (drawS (Below.refl w3.heap.size w3)))
            have BD := Lib.hid (below_in BEL.out HB0.out (drawS (Below.refl w3.heap.size w3)))
            refine wp_region_held_drew (S := fun _ => True) (by kernel_rfl) trivial (fun hHeld => ?_)
            generalize w3.drew = we at OD BD ⊢
            have CXD := Lib.hid (own_sh OD.out j x HIX.out)
            have CYD := Lib.hid (own_sh OD.out p y HIY.out)
            refine take_at (i := 0) 37 rfl rfl (by kernel_rfl) (by kernel_rfl) (by kernel_rfl) (fun _ _ _ h => h) (sure_yes (by rfl) (fun w => by go_simp; try with_reducible rfl)) hHeld ?_
            simp only [List.setIfInBounds_toArray, List.set_cons_zero, List.set_cons_succ]
            refine take_at (i := 1) 38 rfl rfl (by kernel_rfl) (by kernel_rfl) (by kernel_rfl) (fun _ _ _ h => h) (sure_yes (by rfl) (fun w => by go_simp; try with_reducible rfl)) hHeld ?_
            simp only [List.setIfInBounds_toArray, List.set_cons_zero, List.set_cons_succ]
            refine take_at (i := 2) 39 rfl rfl (by kernel_rfl) (by kernel_rfl) (by kernel_rfl) (fun _ _ _ h => h) (sure_yes (by rfl) (fun w => by go_simp; try with_reducible rfl)) hHeld ?_
            simp only [List.setIfInBounds_toArray, List.set_cons_zero, List.set_cons_succ]
            refine take_at (i := 3) 40 rfl rfl (by kernel_rfl) (by kernel_rfl) (by kernel_rfl) (fun _ _ _ h => h) (sure_yes (by rfl) (fun w => by go_simp; try with_reducible rfl)) hHeld ?_
            simp only [List.setIfInBounds_toArray, List.set_cons_zero, List.set_cons_succ]
            refine take_at (i := 4) 41 rfl rfl (by kernel_rfl) (by kernel_rfl) (by kernel_rfl) (fun _ _ _ h => h) (sure_yes (by rfl) (fun w => by go_simp; try with_reducible rfl)) hHeld ?_
            simp only [List.setIfInBounds_toArray, List.set_cons_zero, List.set_cons_succ]
            refine take_at (i := 5) 42 rfl rfl (by kernel_rfl) (by kernel_rfl) (by kernel_rfl) (fun _ _ _ h => h) (sure_yes (by rfl) (fun w => by go_simp; try with_reducible rfl)) hHeld ?_
            simp only [List.setIfInBounds_toArray, List.set_cons_zero, List.set_cons_succ]
            refine take_at (i := 6) 43 rfl rfl (by kernel_rfl) (by kernel_rfl) (by kernel_rfl) (fun _ _ _ h => h) (sure_yes (by rfl) (fun w => by go_simp; try with_reducible rfl)) hHeld ?_
            simp only [List.setIfInBounds_toArray, List.set_cons_zero, List.set_cons_succ]
            refine take_at (i := 7) 44 rfl rfl (by kernel_rfl) (by kernel_rfl) (by kernel_rfl) (fun _ _ _ h => h) (sure_yes (by rfl) (fun w => by go_simp; try with_reducible rfl)) hHeld ?_
            simp only [List.setIfInBounds_toArray, List.set_cons_zero, List.set_cons_succ]
            refine take_at (i := 8) 45 rfl rfl (by kernel_rfl) (by kernel_rfl) (by kernel_rfl) (fun _ _ _ h => h) (sure_yes (by rfl) (fun w => by go_simp; try with_reducible rfl)) hHeld ?_
            simp only [List.setIfInBounds_toArray, List.set_cons_zero, List.set_cons_succ]
            refine take_at (i := 10) 47 rfl rfl (by kernel_rfl) (by kernel_rfl) (by kernel_rfl) (fun _ _ _ h => h) (sure_yes (by rfl) (fun w => by go_simp; try with_reducible rfl)) hHeld ?_
            simp only [List.setIfInBounds_toArray, List.set_cons_zero, List.set_cons_succ]
            refine take_at (i := 11) 48 rfl rfl (by kernel_rfl) (by kernel_rfl) (by kernel_rfl) (fun _ _ _ h => h) (sure_yes (by rfl) (fun w => by go_simp; try with_reducible rfl)) hHeld ?_
            simp only [List.setIfInBounds_toArray, List.set_cons_zero, List.set_cons_succ]
            refine take_at (i := 12) 49 rfl rfl (by kernel_rfl) (by kernel_rfl) (by kernel_rfl) (fun _ _ _ h => h) (sure_yes (by rfl) (fun w => by go_simp; try with_reducible rfl)) hHeld ?_
            simp only [List.setIfInBounds_toArray, List.set_cons_zero, List.set_cons_succ]
            refine ready_two 9 13 (by kernel_rfl) ?_ ?_
            · refine opH_shA 46 rfl rfl (by rfl) 33 (.tmp 45) rfl ⟨g, p * 36, none⟩ rfl Tryz.underlying33 shSize CYD.out trivial ?_
              simp only [Act.put, List.setIfInBounds_toArray, List.set_cons_zero, List.set_cons_succ]
              refine ready_one 13 (by kernel_rfl) ?_
              refine opH_shA 50 rfl rfl (by rfl) 33 (.tmp 49) rfl ⟨g, j * 36, none⟩ rfl Tryz.underlying33 shSize CXD.out trivial ?_
              simp only [Act.put, List.setIfInBounds_toArray, List.set_cons_zero, List.set_cons_succ]
              refine take_at (i := 14) 51 rfl rfl (by kernel_rfl) (by kernel_rfl) (by kernel_rfl) (fun _ _ _ h => h) (sure_yes (by rfl) (fun w => by go_simp; try with_reducible rfl)) hHeld ?_
              simp only [List.setIfInBounds_toArray, List.set_cons_zero, List.set_cons_succ]
              refine ready_one 15 (by kernel_rfl) ?_
              refine opH_list rfl ?_
              refine store_sh rfl 33 (.tmp 51) (.tmp 46) rfl rfl B 33 g n cap j _ OD.out HLN.out (by omega) _ rfl rfl y rfl shSize ?_
              intro wf ho hs
              refine opH_end trivial ?_
              have O1 := Lib.hid ho
              have B1 := Lib.hid (solo_in BD.out hs HBG.out)
              clear ho hs
              refine take_at (i := 16) 52 rfl rfl (by kernel_rfl) (by kernel_rfl) (by kernel_rfl) (fun _ _ _ h => h) (sure_yes (by rfl) (fun w => by go_simp; try with_reducible rfl)) hHeld ?_
              simp only [List.setIfInBounds_toArray, List.set_cons_zero, List.set_cons_succ]
              refine ready_one 17 (by kernel_rfl) ?_
              refine opH_list rfl ?_
              refine store_sh rfl 33 (.tmp 52) (.tmp 50) rfl rfl B 33 g n cap p _ O1.out (by rw [List.length_set]; exact HLN.out) (by omega) _ rfl rfl x rfl shSize ?_
              intro wh ho hs
              refine opH_end trivial ?_
              have O2 := Lib.hid ho
              have B2 := Lib.hid (solo_in B1.out hs HBG.out)
              clear ho hs
              refine wpAnyH_done (by kernel_rfl) ?_ _
              clear hHeld
              go_wp2
              go_roundw
              case rel => exact ⟨p, A0, y :: R, by go_num, HPA.out, by rw [← HAR.out]; simp, fun r hr => by
                rcases List.mem_cons.1 hr with rfl | hr
                · exact HXY.out
                · exact HR.out r hr, by
                have h := O2.out
                rw [HJP.out, swap_sets P y x U p HPL.out, HP.out, HU.out] at h; exact h, B2.out⟩
              case measure => simp [intOf] <;> omega
            · refine opH_shA 50 rfl rfl (by rfl) 33 (.tmp 49) rfl ⟨g, j * 36, none⟩ rfl Tryz.underlying33 shSize CXD.out trivial ?_
              simp only [Act.put, List.setIfInBounds_toArray, List.set_cons_zero, List.set_cons_succ]
              refine ready_one 9 (by kernel_rfl) ?_
              refine opH_shA 46 rfl rfl (by rfl) 33 (.tmp 45) rfl ⟨g, p * 36, none⟩ rfl Tryz.underlying33 shSize CYD.out trivial ?_
              simp only [Act.put, List.setIfInBounds_toArray, List.set_cons_zero, List.set_cons_succ]
              refine take_at (i := 14) 51 rfl rfl (by kernel_rfl) (by kernel_rfl) (by kernel_rfl) (fun _ _ _ h => h) (sure_yes (by rfl) (fun w => by go_simp; try with_reducible rfl)) hHeld ?_
              simp only [List.setIfInBounds_toArray, List.set_cons_zero, List.set_cons_succ]
              refine ready_one 15 (by kernel_rfl) ?_
              refine opH_list rfl ?_
              refine store_sh rfl 33 (.tmp 51) (.tmp 46) rfl rfl B 33 g n cap j _ OD.out HLN.out (by omega) _ rfl rfl y rfl shSize ?_
              intro wf ho hs
              refine opH_end trivial ?_
              have O1 := Lib.hid ho
              have B1 := Lib.hid (solo_in BD.out hs HBG.out)
              clear ho hs
              refine take_at (i := 16) 52 rfl rfl (by kernel_rfl) (by kernel_rfl) (by kernel_rfl) (fun _ _ _ h => h) (sure_yes (by rfl) (fun w => by go_simp; try with_reducible rfl)) hHeld ?_
              simp only [List.setIfInBounds_toArray, List.set_cons_zero, List.set_cons_succ]
              refine ready_one 17 (by kernel_rfl) ?_
              refine opH_list rfl ?_
              refine store_sh rfl 33 (.tmp 52) (.tmp 50) rfl rfl B 33 g n cap p _ O1.out (by rw [List.length_set]; exact HLN.out) (by omega) _ rfl rfl x rfl shSize ?_
              intro wh ho hs
              refine opH_end trivial ?_
              have O2 := Lib.hid ho
              have B2 := Lib.hid (solo_in B1.out hs HBG.out)
              clear ho hs
              refine wpAnyH_done (by kernel_rfl) ?_ _
              clear hHeld
              go_wp2
              go_roundw
              case rel => exact ⟨p, A0, y :: R, by go_num, HPA.out, by rw [← HAR.out]; simp, fun r hr => by
                rcases List.mem_cons.1 hr with rfl | hr
                · exact HXY.out
                · exact HR.out r hr, by
                have h := O2.out
                rw [HJP.out, swap_sets P y x U p HPL.out, HP.out, HU.out] at h; exact h, B2.out⟩
              case measure => simp [intOf] <;> omega
          · have q9 : decide (c < 0) = false := decide_eq_false hc0
            have HXY := Lib.hid (show ltK Sh.path x y = false by rw [← HLT.out, HC.out]; exact q9)
            clear hc0 hjp
            go_upto_region 4 with fail
            refine wp_region_held_drew (S := fun w' => Below w2.heap.size w2 w') (by kernel_rfl) (drawS (Below.refl _ _)) (fun hHeld => ?_)
            generalize w2.drew = wd at hHeld ⊢
            refine take_at (i := 0) 18 rfl rfl (by kernel_rfl) (by kernel_rfl) (by kernel_rfl) (fun _ _ _ h => h) (sure_yes (by rfl) (fun w => by go_simp; try with_reducible rfl)) hHeld ?_
            simp only [List.setIfInBounds_toArray, List.set_cons_zero, List.set_cons_succ]
            refine take_at (i := 1) 19 rfl rfl (by kernel_rfl) (by kernel_rfl) (by kernel_rfl) (fun _ _ _ h => h) (sure_yes (by rfl) (fun w => by go_simp; try with_reducible rfl)) hHeld ?_
            simp only [List.setIfInBounds_toArray, List.set_cons_zero, List.set_cons_succ]
            refine take_at (i := 2) 20 rfl rfl (by kernel_rfl) (by kernel_rfl) (by kernel_rfl) (fun _ _ _ h => h) (sure_yes (by rfl) (fun w => by go_simp; try with_reducible rfl)) hHeld ?_
            simp only [List.setIfInBounds_toArray, List.set_cons_zero, List.set_cons_succ]
            refine take_at (i := 3) 21 rfl rfl (by kernel_rfl) (by kernel_rfl) (by kernel_rfl) (fun _ _ _ h => h) (sure_yes (by rfl) (fun w => by go_simp; try with_reducible rfl)) hHeld ?_
            simp only [List.setIfInBounds_toArray, List.set_cons_zero, List.set_cons_succ]
            refine take_at (i := 4) 22 rfl rfl (by kernel_rfl) (by kernel_rfl) (by kernel_rfl) (fun _ _ _ h => h) (sure_yes (by rfl) (fun w => by go_simp; try with_reducible rfl)) hHeld ?_
            simp only [List.setIfInBounds_toArray, List.set_cons_zero, List.set_cons_succ]
            refine take_at (i := 5) 23 rfl rfl (by kernel_rfl) (by kernel_rfl) (by kernel_rfl) (fun _ _ _ h => h) (sure_yes (by rfl) (fun w => by go_simp; try with_reducible rfl)) hHeld ?_
            simp only [List.setIfInBounds_toArray, List.set_cons_zero, List.set_cons_succ]
            refine take_at (i := 6) 24 rfl rfl (by kernel_rfl) (by kernel_rfl) (by kernel_rfl) (fun _ _ _ h => h) (sure_yes (by rfl) (fun w => by go_simp; try with_reducible rfl)) hHeld ?_
            simp only [List.setIfInBounds_toArray, List.set_cons_zero, List.set_cons_succ]
            refine take_at (i := 7) 25 rfl rfl (by kernel_rfl) (by kernel_rfl) (by kernel_rfl) (fun _ _ _ h => h) (sure_yes (by rfl) (fun w => by go_simp; try with_reducible rfl)) hHeld ?_
            simp only [List.setIfInBounds_toArray, List.set_cons_zero, List.set_cons_succ]
            refine take_at (i := 9) 27 rfl rfl (by kernel_rfl) (by kernel_rfl) (by kernel_rfl) (fun _ _ _ h => h) (sure_yes (by rfl) (fun w => by go_simp; try with_reducible rfl)) hHeld ?_
            simp only [List.setIfInBounds_toArray, List.set_cons_zero, List.set_cons_succ]
            refine take_at (i := 10) 28 rfl rfl (by kernel_rfl) (by kernel_rfl) (by kernel_rfl) (fun _ _ _ h => h) (sure_yes (by rfl) (fun w => by go_simp; try with_reducible rfl)) hHeld ?_
            simp only [List.setIfInBounds_toArray, List.set_cons_zero, List.set_cons_succ]
            refine take_at (i := 11) 29 rfl rfl (by kernel_rfl) (by kernel_rfl) (by kernel_rfl) (fun _ _ _ h => h) (sure_yes (by rfl) (fun w => by go_simp; try with_reducible rfl)) hHeld ?_
            simp only [List.setIfInBounds_toArray, List.set_cons_zero, List.set_cons_succ]
            refine take_at (i := 12) 30 rfl rfl (by kernel_rfl) (by kernel_rfl) (by kernel_rfl) (fun _ _ _ h => h) (sure_yes (by rfl) (fun w => by go_simp; try with_reducible rfl)) hHeld ?_
            simp only [List.setIfInBounds_toArray, List.set_cons_zero, List.set_cons_succ]
            refine take_at (i := 8) 26 rfl rfl (by kernel_rfl) (by kernel_rfl) (by kernel_rfl) (fun _ _ _ h => h) (shA_yields (by rfl) 33 (.tmp 25) rfl ⟨g, j * 36, none⟩ rfl Tryz.underlying33 shSize (fun w h j u hu => cell_under12 (CX.out j u hu) h)) hHeld ?_
            simp only [List.setIfInBounds_toArray, List.set_cons_zero, List.set_cons_succ]
            refine take_at (i := 13) 31 rfl rfl (by kernel_rfl) (by kernel_rfl) (by kernel_rfl) (fun _ _ _ h => h) (shA_yields (by rfl) 33 (.tmp 30) rfl ⟨g, p * 36, none⟩ rfl Tryz.underlying33 shSize (fun w h j u hu => cell_under12 (CY.out j u hu) h)) hHeld ?_
            simp only [List.setIfInBounds_toArray, List.set_cons_zero, List.set_cons_succ]
            refine ready_one 14 (by kernel_rfl) ?_
            refine opH_c2 32 rfl rfl (by rfl) F (.tmp 22) (.tmp 26) (.tmp 31) 33 33 rfl rfl (.agg (shC x)) (.agg (shC y)) rfl rfl CMF.out.2 _ (CMF.out.1 x y _) ?_
            rintro x wz ⟨rfl, hb⟩
            refine ⟨_, rfl, below_next hHeld hb, ?_⟩
            replace hHeld := below_next hHeld hb
            rw [HC.out]
            clear hb
            simp only [List.setIfInBounds_toArray, List.set_cons_zero, List.set_cons_succ]
            refine take_at (i := 15) 33 rfl rfl (by kernel_rfl) (by kernel_rfl) (by kernel_rfl) (fun _ _ _ h => h) (sure_yes (by rfl) (fun w => by go_simp; try with_reducible rfl)) hHeld ?_
            simp only [List.setIfInBounds_toArray, List.set_cons_zero, List.set_cons_succ]
            refine take_at (i := 16) 34 rfl rfl (by kernel_rfl) (by kernel_rfl) (by kernel_rfl) (fun _ _ _ h => h) (sure_yes (by rfl) (fun w => by go_simp; try with_reducible rfl)) hHeld ?_
            simp only [List.setIfInBounds_toArray, List.set_cons_zero, List.set_cons_succ]
            refine wpAnyH_done (by kernel_rfl) ?_ _
            have Z := Lib.hid hHeld
            clear hHeld
            have OWN := Lib.hid (own_below HO2.out Z.out)
            have BEL := Lib.hid (below_in HB2.out HB0.out Z.out)
            generalize wz = w3 at *
            go_wp2
            go_roundw
            case rel =>
              refine ⟨i + 1, i + 1, A0 ++ [y] ++ x :: R, by go_num, by omega, by omega, fun _ => rfl, fun h => by omega, ?_, ?_, BEL.out⟩
              · rw [seg_snoc HX.out (by omega)]
                refine stable_snoc HST.out ?_
                have h0 : SortedK Sh.path (A0 ++ [y] ++ R) := by rw [HAR.out]; exact HST.out.1
                have h := stable_right (key := Sh.path) (y := x) (A := A0 ++ [y]) (B := R) h0 (fun z hz => sorted_last (sorted_append.1 h0).1 HXY.out z hz) HR.out
                rw [HAR.out] at h; exact h
              · have h := OWN.out
                rw [HP.out, HU.out] at h
                simpa using h
            case measure => simp [intOf] <;> omega
        · have hA : A = [] := by
            cases A with
            | nil => rfl
            | cons z t => rw [List.length_cons] at hj; omega
          subst hA
          have hja : j = a := by simpa using hj
          subst hja
          have HO3 := Lib.hid ho
          have HRS := Lib.hid (show R = S by rw [← HAR.out, List.nil_append])
          clear ho hj haj
          generalize wr = w2 at *
          go_upto_region 4 with fail
          refine wp_region_held_drew (S := fun w' => Below w2.heap.size w2 w') (by kernel_rfl) (drawS (Below.refl _ _)) (fun hHeld => ?_)
          generalize w2.drew = wd at hHeld ⊢
          refine take_at (i := 0) 18 rfl rfl (by kernel_rfl) (by kernel_rfl) (by kernel_rfl) (fun _ _ _ h => h) (sure_yes (by rfl) (fun w => by go_simp; try with_reducible rfl)) hHeld ?_
          simp only [List.setIfInBounds_toArray, List.set_cons_zero, List.set_cons_succ]
          refine take_at (i := 1) 19 rfl rfl (by kernel_rfl) (by kernel_rfl) (by kernel_rfl) (fun _ _ _ h => h) (sure_yes (by rfl) (fun w => by go_simp; try with_reducible rfl)) hHeld ?_
          simp only [List.setIfInBounds_toArray, List.set_cons_zero, List.set_cons_succ]
          refine take_at (i := 2) 20 rfl rfl (by kernel_rfl) (by kernel_rfl) (by kernel_rfl) (fun _ _ _ h => h) (sure_yes (by rfl) (fun w => by go_simp; try with_reducible rfl)) hHeld ?_
          simp only [List.setIfInBounds_toArray, List.set_cons_zero, List.set_cons_succ]
          refine take_at (i := 3) 21 rfl rfl (by kernel_rfl) (by kernel_rfl) (by kernel_rfl) (fun _ _ _ h => h) (sure_yes (by rfl) (fun w => by go_simp; try with_reducible rfl)) hHeld ?_
          simp only [List.setIfInBounds_toArray, List.set_cons_zero, List.set_cons_succ]
          refine take_at (i := 4) 22 rfl rfl (by kernel_rfl) (by kernel_rfl) (by kernel_rfl) (fun _ _ _ h => h) (.inr ⟨by rfl, rfl⟩) hHeld ?_
          simp only [List.setIfInBounds_toArray, List.set_cons_zero, List.set_cons_succ]
          refine take_at (i := 5) 23 rfl rfl (by kernel_rfl) (by kernel_rfl) (by kernel_rfl) (fun _ _ _ h => h) (.inr ⟨by rfl, rfl⟩) hHeld ?_
          simp only [List.setIfInBounds_toArray, List.set_cons_zero, List.set_cons_succ]
          refine take_at (i := 6) 24 rfl rfl (by kernel_rfl) (by kernel_rfl) (by kernel_rfl) (fun _ _ _ h => h) (.inr ⟨by rfl, rfl⟩) hHeld ?_
          simp only [List.setIfInBounds_toArray, List.set_cons_zero, List.set_cons_succ]
          refine take_at (i := 7) 25 rfl rfl (by kernel_rfl) (by kernel_rfl) (by kernel_rfl) (fun _ _ _ h => h) (.inr ⟨by rfl, rfl⟩) hHeld ?_
          simp only [List.setIfInBounds_toArray, List.set_cons_zero, List.set_cons_succ]
          refine take_at (i := 8) 26 rfl rfl (by kernel_rfl) (by kernel_rfl) (by kernel_rfl) (fun _ _ _ h => h) (.inr ⟨by rfl, rfl⟩) hHeld ?_
          simp only [List.setIfInBounds_toArray, List.set_cons_zero, List.set_cons_succ]
          refine take_at (i := 9) 27 rfl rfl (by kernel_rfl) (by kernel_rfl) (by kernel_rfl) (fun _ _ _ h => h) (.inr ⟨by rfl, rfl⟩) hHeld ?_
          simp only [List.setIfInBounds_toArray, List.set_cons_zero, List.set_cons_succ]
          refine take_at (i := 10) 28 rfl rfl (by kernel_rfl) (by kernel_rfl) (by kernel_rfl) (fun _ _ _ h => h) (.inr ⟨by rfl, rfl⟩) hHeld ?_
          simp only [List.setIfInBounds_toArray, List.set_cons_zero, List.set_cons_succ]
          refine take_at (i := 11) 29 rfl rfl (by kernel_rfl) (by kernel_rfl) (by kernel_rfl) (fun _ _ _ h => h) (.inr ⟨by rfl, rfl⟩) hHeld ?_
          simp only [List.setIfInBounds_toArray, List.set_cons_zero, List.set_cons_succ]
          refine take_at (i := 12) 30 rfl rfl (by kernel_rfl) (by kernel_rfl) (by kernel_rfl) (fun _ _ _ h => h) (.inr ⟨by rfl, rfl⟩) hHeld ?_
          simp only [List.setIfInBounds_toArray, List.set_cons_zero, List.set_cons_succ]
          refine take_at (i := 13) 31 rfl rfl (by kernel_rfl) (by kernel_rfl) (by kernel_rfl) (fun _ _ _ h => h) (.inr ⟨by rfl, rfl⟩) hHeld ?_
          simp only [List.setIfInBounds_toArray, List.set_cons_zero, List.set_cons_succ]
          refine take_at (i := 14) 32 rfl rfl (by kernel_rfl) (by kernel_rfl) (by kernel_rfl) (fun _ _ _ h => h) (.inr ⟨by rfl, rfl⟩) hHeld ?_
          simp only [List.setIfInBounds_toArray, List.set_cons_zero, List.set_cons_succ]
          refine take_at (i := 15) 33 rfl rfl (by kernel_rfl) (by kernel_rfl) (by kernel_rfl) (fun _ _ _ h => h) (.inr ⟨by rfl, rfl⟩) hHeld ?_
          simp only [List.setIfInBounds_toArray, List.set_cons_zero, List.set_cons_succ]
          refine take_at (i := 16) 34 rfl rfl (by kernel_rfl) (by kernel_rfl) (by kernel_rfl) (fun _ _ _ h => h) (sure_yes (by rfl) (fun w => by go_simp; try with_reducible rfl)) hHeld ?_
          simp only [List.setIfInBounds_toArray, List.set_cons_zero, List.set_cons_succ]
          refine wpAnyH_done (by kernel_rfl) ?_ _
          have Z := Lib.hid hHeld
          clear hHeld
          have OWN := Lib.hid (own_below HO3.out Z.out)
          have BEL := Lib.hid (below_in HB2.out HB0.out Z.out)
          generalize wd = w3 at *
          go_wp2
          go_roundw
          case rel =>
            refine ⟨i + 1, i + 1, x :: S, by go_num, by omega, by omega, fun _ => rfl, fun h => by omega, ?_, ?_, BEL.out⟩
            · rw [seg_snoc HX.out (by omega)]
              refine stable_snoc HST.out ?_
              have h := stable_right (key := Sh.path) (y := x) (A := []) (B := S) (by rw [List.nil_append]; exact HST.out.1) (fun z hz => by cases hz) (fun r hr => HR.out r (by rw [HRS.out]; exact hr))
              exact h
            · have h := OWN.out
              rw [HRS.out] at h
              simpa using h
          case measure => simp [intOf] <;> omega
    · have hmb := hm2 (by omega)
      subst hmb
      have q1 : ¬ (i : Int) < (m : Int) := by omega
      have HE := Lib.hid (And.intro hst hown)
      clear hst hown
      go_wp2
      refine bodyPost_end (results_none rfl _ _ _) rfl ?_
      exact ⟨rfl, S, HE.out.1, (by have h := HE.out.2; simpa only [List.append_assoc] using h), HB1.out⟩
end Go.Proofs.YtppmbdpfledejaaGreatDoor
namespace Go.Proofs.YtppmbdpfledejaaGreatDoor
open Go.RowKit
theorem swap2_sets {α : Type} (P : List α) (x : α) (M : List α) (y : α) (Q : List α) (p q : Nat) (hp : p = P.length) (hq : q = P.length + 1 + M.length) : ((P ++ x :: (M ++ y :: Q)).set p y).set q x = P ++ y :: (M ++ x :: Q) := by
  subst hp
  rw [List.set_append_right _ _ (Nat.le_refl _), Nat.sub_self, List.set_cons_zero, List.set_append_right _ _ (by omega), show q - P.length = M.length + 1 by omega, List.set_cons_succ, List.set_append_right _ _ (Nat.le_refl _), Nat.sub_self, List.set_cons_zero]
theorem own_len {B : Nat} {T : TypeId} {g n cap : Nat} {l : List Sh} {w : World} (h : w.ownsRow B T 36 (.slice (some ⟨g, 0, none⟩) n cap) n (shsC l)) : n = l.length := by
  have h := h.1
  rw [shsC_length] at h
  exact (Nat.eq_of_mul_eq_mul_right (by decide) h).symm
def midS (P X M Y Q : List Sh) (i : Nat) : List Sh := P ++ Y.take i ++ (X.drop i ++ M ++ X.take i ++ Y.drop i ++ Q)
theorem midS_zero (P X M Y Q : List Sh) : midS P X M Y Q 0 = P ++ X ++ M ++ Y ++ Q := by simp [midS]
theorem midS_end (P X M Y Q : List Sh) (k : Nat) (hx : X.length = k) (hy : Y.length = k) : midS P X M Y Q k = P ++ Y ++ M ++ X ++ Q := by
  subst hx; rw [midS, ← hy, List.take_length, List.drop_length, hy, List.take_length, List.drop_length]; simp
theorem midS_at (P X M Y Q : List Sh) (i : Nat) (x y : Sh) (hx : X[i]? = some x) (hy : Y[i]? = some y) : midS P X M Y Q i = (P ++ Y.take i) ++ x :: ((X.drop (i + 1) ++ M ++ X.take i) ++ y :: (Y.drop (i + 1) ++ Q)) := by
  unfold midS
  rw [drop_at hx, drop_at hy]; simp
theorem midS_next (P X M Y Q : List Sh) (i : Nat) (x y : Sh) (hx : X[i]? = some x) (hy : Y[i]? = some y) : midS P X M Y Q (i + 1) = (P ++ Y.take i) ++ y :: ((X.drop (i + 1) ++ M ++ X.take i) ++ x :: (Y.drop (i + 1) ++ Q)) := by
  unfold midS
  rw [List.take_add_one, List.take_add_one, hx, hy]; simp
set_option linter.unusedSimpArgs false in
set_option maxRecDepth 100000 in
set_option maxHeartbeats 16000000 in
theorem swapSh_any (P X M Y Q : List Sh) (k a b n cap g B : Nat) (hX : X.length = k) (hY : Y.length = k) (ha : a = P.length) (hb : b = P.length + k + M.length) (hn5 : n ≤ 50000) (u : Value) (w : World) (hw : w.ownsRow B 33 36 (.slice (some ⟨g, 0, none⟩) n cap) n (shsC (P ++ X ++ M ++ Y ++ Q))) :
    Calls Tryz.prog 149 #[(.slice (some ⟨g, 0, none⟩) n cap), .int .i64 (a : Int), .int .i64 (b : Int), .int .i64 (k : Int), u] w fun x w' => x = .returned (.tuple #[]) ∧ w'.ownsRow B 33 36 (.slice (some ⟨g, 0, none⟩) n cap) n (shsC (P ++ Y ++ M ++ X ++ Q)) ∧ Below B w w' := by
  obtain ⟨hBg, hB0⟩ := own_in hw
  have HBG := Lib.hid hBg
  have HB0 := Lib.hid hB0
  have hn := own_len hw
  have hnn : n = P.length + k + M.length + k + Q.length := by rw [hn]; simp only [List.length_append, hX, hY]
  have HNN := Lib.hid hnn
  have hk5 : k ≤ 50000 := by omega
  have HW := Lib.hid hw
  have HX := Lib.hid hX
  have HY := Lib.hid hY
  have HA := Lib.hid ha
  have HB := Lib.hid hb
  clear hw hn hnn hBg hB0 hX hY ha hb
  go_enter Tryz.func149, Tryz.ntmps149
  go_wp2
  go_loopw [10] (fun c wr => ∃ i : Nat, c = .int .i64 (i : Int) ∧ i ≤ k ∧ wr.ownsRow B 33 36 (.slice (some ⟨g, 0, none⟩) n cap) n (shsC (midS P X M Y Q i)) ∧ Below B w wr) (fun c _ => k - (intOf c).toNat)
  case atStart => exact ⟨0, rfl, by omega, by rw [midS_zero]; exact HW.out, Below.refl _ _⟩
  case round =>
    obtain ⟨i, rfl, hik, ho, hb⟩ := hrel
    have BEL := Lib.hid hb
    clear hb
    by_cases hi : i < k
    · obtain ⟨x, hx⟩ : ∃ x, X[i]? = some x := ⟨_, List.getElem?_eq_getElem (by have := HX.out; omega)⟩
      obtain ⟨y, hy⟩ : ∃ x, Y[i]? = some x := ⟨_, List.getElem?_eq_getElem (by have := HY.out; omega)⟩
      have HNX := Lib.hid (midS_next P X M Y Q i x y hx hy)
      rw [midS_at P X M Y Q i x y hx hy] at ho
      obtain ⟨P1, hP⟩ : ∃ P1, P1 = P ++ Y.take i := ⟨_, rfl⟩
      obtain ⟨M1, hM⟩ : ∃ M1, M1 = X.drop (i + 1) ++ M ++ X.take i := ⟨_, rfl⟩
      obtain ⟨Q1, hQ⟩ : ∃ Q1, Q1 = Y.drop (i + 1) ++ Q := ⟨_, rfl⟩
      have hPl : P1.length = P.length + i := by rw [hP, List.length_append, List.length_take]; have := HY.out; omega
      have hMl : M1.length + 1 = k + M.length := by rw [hM, List.length_append, List.length_append, List.length_drop, List.length_take]; have := HX.out; omega
      have HNX := Lib.hid (show midS P X M Y Q (i + 1) = P1 ++ y :: (M1 ++ x :: Q1) by rw [hP, hM, hQ]; exact HNX.out)
      rw [← hP, ← hM, ← hQ] at ho
      obtain ⟨p, hp⟩ : ∃ p, p = P1.length := ⟨_, rfl⟩
      obtain ⟨q, hq⟩ : ∃ q, q = P1.length + 1 + M1.length := ⟨_, rfl⟩
      have HIX := Lib.hid (show (P1 ++ x :: (M1 ++ y :: Q1))[p]? = some x from at_pre P1 x _ p hp)
      have HIY := Lib.hid (show (P1 ++ x :: (M1 ++ y :: Q1))[q]? = some y by
        have h := at_pre (P1 ++ x :: M1) y Q1 q (by rw [List.length_append, List.length_cons]; omega)
        rw [List.append_assoc] at h; exact h)
      have HLN := Lib.hid (own_len ho)
      have hpa : p = a + i := by have := HA.out; omega
      have hqb : q = b + i := by have := HA.out; have := HB.out; omega
      have hqn : q < n := by have := HNN.out; have := HB.out; omega
      have hpq : p < q := by omega
      have OWN := Lib.hid ho
      have HP := Lib.hid hp
      have HQ := Lib.hid hq
      have q1 : (i : Int) < (k : Int) := by omega
      have q2 : (a : Int) + (i : Int) = (p : Int) := by omega
      have q3 : (b : Int) + (i : Int) = (q : Int) := by omega
      have q4 : IntKind.i64.wrap (p : Int) = (p : Int) := by rw [IntKind.wrap_i64]; omega
      have q5 : IntKind.i64.wrap (q : Int) = (q : Int) := by rw [IntKind.wrap_i64]; omega
      have q6 : (p : Int) < (n : Int) := by omega
      have q7 : (q : Int) < (n : Int) := by omega
      have q8 : p < n := by omega
      have q9 : IntKind.i64.wrap ((i : Int) + 1) = ((i + 1 : Nat) : Int) := by rw [IntKind.wrap_i64]; omega
      clear ho hP hM hQ hPl hMl hp hq hpa hqb hx hy
      generalize wr = w3 at *
      go_upto_region 3 with fail
      have OD := Lib.hid (own_below OWN.out (drawS (Below.refl w3.heap.size w3)))
      have BD := Lib.hid (below_in BEL.out HB0.out (drawS (Below.refl w3.heap.size w3)))
      refine wp_region_held_drew (S := fun _ => True) (by kernel_rfl) trivial (fun hHeld => ?_)
      generalize w3.drew = we at OD BD ⊢
      have CXD := Lib.hid (own_sh OD.out p x HIX.out)
      have CYD := Lib.hid (own_sh OD.out q y HIY.out)
      refine take_at (i := 0) 16 rfl rfl (by kernel_rfl) (by kernel_rfl) (by kernel_rfl) (fun _ _ _ h => h) (sure_yes (by rfl) (fun w => by go_simp; try with_reducible rfl)) hHeld ?_
      simp only [List.setIfInBounds_toArray, List.set_cons_zero, List.set_cons_succ]
      refine take_at (i := 1) 17 rfl rfl (by kernel_rfl) (by kernel_rfl) (by kernel_rfl) (fun _ _ _ h => h) (sure_yes (by rfl) (fun w => by go_simp; try with_reducible rfl)) hHeld ?_
      simp only [List.setIfInBounds_toArray, List.set_cons_zero, List.set_cons_succ]
      refine take_at (i := 2) 18 rfl rfl (by kernel_rfl) (by kernel_rfl) (by kernel_rfl) (fun _ _ _ h => h) (sure_yes (by rfl) (fun w => by go_simp; try with_reducible rfl)) hHeld ?_
      simp only [List.setIfInBounds_toArray, List.set_cons_zero, List.set_cons_succ]
      refine take_at (i := 3) 19 rfl rfl (by kernel_rfl) (by kernel_rfl) (by kernel_rfl) (fun _ _ _ h => h) (sure_yes (by rfl) (fun w => by go_simp; try with_reducible rfl)) hHeld ?_
      simp only [List.setIfInBounds_toArray, List.set_cons_zero, List.set_cons_succ]
      refine take_at (i := 4) 20 rfl rfl (by kernel_rfl) (by kernel_rfl) (by kernel_rfl) (fun _ _ _ h => h) (sure_yes (by rfl) (fun w => by go_simp; try with_reducible rfl)) hHeld ?_
      simp only [List.setIfInBounds_toArray, List.set_cons_zero, List.set_cons_succ]
      refine take_at (i := 5) 21 rfl rfl (by kernel_rfl) (by kernel_rfl) (by kernel_rfl) (fun _ _ _ h => h) (sure_yes (by rfl) (fun w => by go_simp; try with_reducible rfl)) hHeld ?_
      simp only [List.setIfInBounds_toArray, List.set_cons_zero, List.set_cons_succ]
      refine take_at (i := 6) 22 rfl rfl (by kernel_rfl) (by kernel_rfl) (by kernel_rfl) (fun _ _ _ h => h) (sure_yes (by rfl) (fun w => by go_simp; try with_reducible rfl)) hHeld ?_
      simp only [List.setIfInBounds_toArray, List.set_cons_zero, List.set_cons_succ]
      refine take_at (i := 7) 23 rfl rfl (by kernel_rfl) (by kernel_rfl) (by kernel_rfl) (fun _ _ _ h => h) (sure_yes (by rfl) (fun w => by go_simp; try with_reducible rfl)) hHeld ?_
      simp only [List.setIfInBounds_toArray, List.set_cons_zero, List.set_cons_succ]
      refine take_at (i := 8) 24 rfl rfl (by kernel_rfl) (by kernel_rfl) (by kernel_rfl) (fun _ _ _ h => h) (sure_yes (by rfl) (fun w => by go_simp; try with_reducible rfl)) hHeld ?_
      simp only [List.setIfInBounds_toArray, List.set_cons_zero, List.set_cons_succ]
      refine take_at (i := 9) 25 rfl rfl (by kernel_rfl) (by kernel_rfl) (by kernel_rfl) (fun _ _ _ h => h) (sure_yes (by rfl) (fun w => by go_simp; try with_reducible rfl)) hHeld ?_
      simp only [List.setIfInBounds_toArray, List.set_cons_zero, List.set_cons_succ]
      refine take_at (i := 10) 26 rfl rfl (by kernel_rfl) (by kernel_rfl) (by kernel_rfl) (fun _ _ _ h => h) (sure_yes (by rfl) (fun w => by go_simp; try with_reducible rfl)) hHeld ?_
      simp only [List.setIfInBounds_toArray, List.set_cons_zero, List.set_cons_succ]
      refine take_at (i := 11) 27 rfl rfl (by kernel_rfl) (by kernel_rfl) (by kernel_rfl) (fun _ _ _ h => h) (sure_yes (by rfl) (fun w => by go_simp; try with_reducible rfl)) hHeld ?_
      simp only [List.setIfInBounds_toArray, List.set_cons_zero, List.set_cons_succ]
      refine take_at (i := 12) 28 rfl rfl (by kernel_rfl) (by kernel_rfl) (by kernel_rfl) (fun _ _ _ h => h) (sure_yes (by rfl) (fun w => by go_simp; try with_reducible rfl)) hHeld ?_
      simp only [List.setIfInBounds_toArray, List.set_cons_zero, List.set_cons_succ]
      refine take_at (i := 14) 30 rfl rfl (by kernel_rfl) (by kernel_rfl) (by kernel_rfl) (fun _ _ _ h => h) (sure_yes (by rfl) (fun w => by go_simp; try with_reducible rfl)) hHeld ?_
      simp only [List.setIfInBounds_toArray, List.set_cons_zero, List.set_cons_succ]
      refine take_at (i := 15) 31 rfl rfl (by kernel_rfl) (by kernel_rfl) (by kernel_rfl) (fun _ _ _ h => h) (sure_yes (by rfl) (fun w => by go_simp; try with_reducible rfl)) hHeld ?_
      simp only [List.setIfInBounds_toArray, List.set_cons_zero, List.set_cons_succ]
      refine take_at (i := 16) 32 rfl rfl (by kernel_rfl) (by kernel_rfl) (by kernel_rfl) (fun _ _ _ h => h) (sure_yes (by rfl) (fun w => by go_simp; try with_reducible rfl)) hHeld ?_
      simp only [List.setIfInBounds_toArray, List.set_cons_zero, List.set_cons_succ]
      refine take_at (i := 17) 33 rfl rfl (by kernel_rfl) (by kernel_rfl) (by kernel_rfl) (fun _ _ _ h => h) (sure_yes (by rfl) (fun w => by go_simp; try with_reducible rfl)) hHeld ?_
      simp only [List.setIfInBounds_toArray, List.set_cons_zero, List.set_cons_succ]
      refine take_at (i := 18) 34 rfl rfl (by kernel_rfl) (by kernel_rfl) (by kernel_rfl) (fun _ _ _ h => h) (sure_yes (by rfl) (fun w => by go_simp; try with_reducible rfl)) hHeld ?_
      simp only [List.setIfInBounds_toArray, List.set_cons_zero, List.set_cons_succ]
      refine ready_two 13 19 (by kernel_rfl) ?_ ?_
      · refine opH_shA 29 rfl rfl (by rfl) 33 (.tmp 28) rfl ⟨g, q * 36, none⟩ rfl Tryz.underlying33 shSize CYD.out trivial ?_
        simp only [Act.put, List.setIfInBounds_toArray, List.set_cons_zero, List.set_cons_succ]
        refine ready_one 19 (by kernel_rfl) ?_
        refine opH_shA 35 rfl rfl (by rfl) 33 (.tmp 34) rfl ⟨g, p * 36, none⟩ rfl Tryz.underlying33 shSize CXD.out trivial ?_
        simp only [Act.put, List.setIfInBounds_toArray, List.set_cons_zero, List.set_cons_succ]
        refine take_at (i := 20) 36 rfl rfl (by kernel_rfl) (by kernel_rfl) (by kernel_rfl) (fun _ _ _ h => h) (sure_yes (by rfl) (fun w => by go_simp; try with_reducible rfl)) hHeld ?_
        simp only [List.setIfInBounds_toArray, List.set_cons_zero, List.set_cons_succ]
        refine ready_one 21 (by kernel_rfl) ?_
        refine opH_list rfl ?_
        refine store_sh rfl 33 (.tmp 36) (.tmp 29) rfl rfl B 33 g n cap p _ OD.out HLN.out (by omega) _ rfl rfl y rfl shSize ?_
        intro wf ho hs
        refine opH_end trivial ?_
        have O1 := Lib.hid ho
        have B1 := Lib.hid (solo_in BD.out hs HBG.out)
        clear ho hs
        refine take_at (i := 22) 37 rfl rfl (by kernel_rfl) (by kernel_rfl) (by kernel_rfl) (fun _ _ _ h => h) (sure_yes (by rfl) (fun w => by go_simp; try with_reducible rfl)) hHeld ?_
        simp only [List.setIfInBounds_toArray, List.set_cons_zero, List.set_cons_succ]
        refine ready_one 23 (by kernel_rfl) ?_
        refine opH_list rfl ?_
        refine store_sh rfl 33 (.tmp 37) (.tmp 35) rfl rfl B 33 g n cap q _ O1.out (by rw [List.length_set]; exact HLN.out) (by omega) _ rfl rfl x rfl shSize ?_
        intro wh ho hs
        refine opH_end trivial ?_
        have O2 := Lib.hid ho
        have B2 := Lib.hid (solo_in B1.out hs HBG.out)
        clear ho hs
        refine wpAnyH_done (by kernel_rfl) ?_ _
        clear hHeld
        go_wp2
        go_roundw
        case rel => exact ⟨i + 1, by go_num, by omega, by
          have h := O2.out
          rw [swap2_sets P1 x M1 y Q1 p q HP.out HQ.out, ← HNX.out] at h; exact h, B2.out⟩
        case measure => simp [intOf] <;> omega
      · refine opH_shA 35 rfl rfl (by rfl) 33 (.tmp 34) rfl ⟨g, p * 36, none⟩ rfl Tryz.underlying33 shSize CXD.out trivial ?_
        simp only [Act.put, List.setIfInBounds_toArray, List.set_cons_zero, List.set_cons_succ]
        refine ready_one 13 (by kernel_rfl) ?_
        refine opH_shA 29 rfl rfl (by rfl) 33 (.tmp 28) rfl ⟨g, q * 36, none⟩ rfl Tryz.underlying33 shSize CYD.out trivial ?_
        simp only [Act.put, List.setIfInBounds_toArray, List.set_cons_zero, List.set_cons_succ]
        refine take_at (i := 20) 36 rfl rfl (by kernel_rfl) (by kernel_rfl) (by kernel_rfl) (fun _ _ _ h => h) (sure_yes (by rfl) (fun w => by go_simp; try with_reducible rfl)) hHeld ?_
        simp only [List.setIfInBounds_toArray, List.set_cons_zero, List.set_cons_succ]
        refine ready_one 21 (by kernel_rfl) ?_
        refine opH_list rfl ?_
        refine store_sh rfl 33 (.tmp 36) (.tmp 29) rfl rfl B 33 g n cap p _ OD.out HLN.out (by omega) _ rfl rfl y rfl shSize ?_
        intro wf ho hs
        refine opH_end trivial ?_
        have O1 := Lib.hid ho
        have B1 := Lib.hid (solo_in BD.out hs HBG.out)
        clear ho hs
        refine take_at (i := 22) 37 rfl rfl (by kernel_rfl) (by kernel_rfl) (by kernel_rfl) (fun _ _ _ h => h) (sure_yes (by rfl) (fun w => by go_simp; try with_reducible rfl)) hHeld ?_
        simp only [List.setIfInBounds_toArray, List.set_cons_zero, List.set_cons_succ]
        refine ready_one 23 (by kernel_rfl) ?_
        refine opH_list rfl ?_
        refine store_sh rfl 33 (.tmp 37) (.tmp 35) rfl rfl B 33 g n cap q _ O1.out (by rw [List.length_set]; exact HLN.out) (by omega) _ rfl rfl x rfl shSize ?_
        intro wh ho hs
        refine opH_end trivial ?_
        have O2 := Lib.hid ho
        have B2 := Lib.hid (solo_in B1.out hs HBG.out)
        clear ho hs
        refine wpAnyH_done (by kernel_rfl) ?_ _
        clear hHeld
        go_wp2
        go_roundw
        case rel => exact ⟨i + 1, by go_num, by omega, by
          have h := O2.out
          rw [swap2_sets P1 x M1 y Q1 p q HP.out HQ.out, ← HNX.out] at h; exact h, B2.out⟩
        case measure => simp [intOf] <;> omega
    · obtain rfl : i = k := by omega
      have q1 : ¬ (i : Int) < (i : Int) := by omega
      have OWN := Lib.hid (show wr.ownsRow B 33 36 (.slice (some ⟨g, 0, none⟩) n cap) n (shsC (P ++ Y ++ M ++ X ++ Q)) by rw [← midS_end P X M Y Q i HX.out HY.out]; exact ho)
      clear ho
      go_wp2
      refine bodyPost_end (results_none rfl _ _ _) rfl ?_
      exact ⟨rfl, (by have h := OWN.out; simpa only [List.append_assoc] using h), BEL.out⟩
set_option linter.unusedSimpArgs false in
set_option maxRecDepth 100000 in
set_option maxHeartbeats 16000000 in
theorem rotSh_any (P X Y Q : List Sh) (a m b n cap g B : Nat) (hX : 0 < X.length) (hY : 0 < Y.length) (ha : a = P.length) (hm : m = P.length + X.length) (hb : b = P.length + X.length + Y.length) (hn5 : n ≤ 50000) (u : Value) (w : World) (hw : w.ownsRow B 33 36 (.slice (some ⟨g, 0, none⟩) n cap) n (shsC (P ++ X ++ Y ++ Q))) :
    Calls Tryz.prog 131 #[(.slice (some ⟨g, 0, none⟩) n cap), .int .i64 (a : Int), .int .i64 (m : Int), .int .i64 (b : Int), u] w fun x w' => x = .returned (.tuple #[]) ∧ w'.ownsRow B 33 36 (.slice (some ⟨g, 0, none⟩) n cap) n (shsC (P ++ Y ++ X ++ Q)) ∧ Below B w w' := by
  obtain ⟨hBg, hB0⟩ := own_in hw
  have HB0 := Lib.hid hB0
  have hn := own_len hw
  have hnn : b ≤ n := by rw [hn, hb]; simp only [List.length_append]; omega
  have HNN := Lib.hid (And.intro hnn (And.intro ha (And.intro hm hb)))
  have hn2 := hn5
  have HW := Lib.hid hw
  have HPOS := Lib.hid (And.intro hX hY)
  have SW := Lib.hid (fun (P X M Y Q : List Sh) (k a b : Nat) hX hY ha hb w hw => swapSh_any P X M Y Q k a b n cap g B hX hY ha hb hn5 u w hw)
  obtain ⟨i0, hi0⟩ : ∃ i, i = X.length := ⟨_, rfl⟩
  obtain ⟨j0, hj0⟩ : ∃ i, i = Y.length := ⟨_, rfl⟩
  have HI0 := Lib.hid hi0
  have HJ0 := Lib.hid hj0
  have z1 : (m : Int) - (a : Int) = (i0 : Int) := by omega
  have z2 : (b : Int) - (m : Int) = (j0 : Int) := by omega
  have z3 : IntKind.i64.wrap (i0 : Int) = (i0 : Int) := by rw [IntKind.wrap_i64]; omega
  have z4 : IntKind.i64.wrap (j0 : Int) = (j0 : Int) := by rw [IntKind.wrap_i64]; omega
  clear hw hn hnn hBg hB0 hX hY ha hm hb hi0 hj0
  go_enter Tryz.func131, Tryz.ntmps131
  go_wp2
  go_loopw [10, 11] (fun c d wr => ∃ (i j : Nat) (Yd U V Xd : List Sh), c = .int .i64 (i : Int) ∧ d = .int .i64 (j : Int) ∧ (0 < i ∧ 0 < j) ∧ (U.length = i ∧ V.length = j) ∧ (m = P.length + Yd.length + i ∧ Yd.length + i + j ≤ X.length + Y.length) ∧ Yd ++ V ++ U ++ Xd = Y ++ X ∧ wr.ownsRow B 33 36 (.slice (some ⟨g, 0, none⟩) n cap) n (shsC (P ++ Yd ++ U ++ V ++ Xd ++ Q)) ∧ Below B w wr) (fun c d _ => (intOf c).toNat + (intOf d).toNat)
  case atStart =>
    refine ⟨i0, j0, [], X, Y, [], rfl, rfl, by rw [HI0.out, HJ0.out]; exact HPOS.out, ⟨HI0.out.symm, HJ0.out.symm⟩, ⟨?_, ?_⟩, by simp, ?_, Below.refl _ _⟩
    · have := HNN.out.2.2.1; have := HI0.out; rw [List.length_nil]; omega
    · have := HI0.out; have := HJ0.out; rw [List.length_nil]; omega
    · have h := HW.out; simpa using h
  case round =>
    obtain ⟨i, j, Yd, U, V, Xd, rfl, rfl, ⟨hi, hj⟩, ⟨hU, hV⟩, ⟨hmm, hle⟩, hdone, ho, hb⟩ := hrel
    have hbn : m + j ≤ b := by have := HNN.out; omega
    have hb5 : b ≤ 50000 := by have := HNN.out; omega
    have HD := Lib.hid hdone
    have HO := Lib.hid ho
    have BEL := Lib.hid hb
    have HUV := Lib.hid (And.intro hU hV)
    have HMM := Lib.hid (And.intro hmm hle)
    obtain ⟨s, hs⟩ : ∃ s, s = m - i := ⟨_, rfl⟩
    have z1 : (m : Int) - (i : Int) = (s : Int) := by omega
    have z2 : IntKind.i64.wrap (s : Int) = (s : Int) := by rw [IntKind.wrap_i64]; omega
    have HS := Lib.hid (show s = P.length + Yd.length by omega)
    clear hdone ho hb hU hV hs
    generalize wr = w1 at *
    by_cases hij : i = j
    · subst hij
      clear hmm hle hbn
      have SWC := Lib.hid (fun w hw => SW.out (P ++ Yd) U [] V (Xd ++ Q) i s m HUV.out.1 HUV.out.2 (by rw [HS.out, List.length_append]) (by have := HMM.out; rw [List.length_append, List.length_nil]; omega) w hw)
      have HO1 := Lib.hid (show w1.ownsRow B 33 36 (.slice (some ⟨g, 0, none⟩) n cap) n (shsC (P ++ Yd ++ U ++ [] ++ V ++ (Xd ++ Q))) by have h := HO.out; simpa using h)
      go_wp2_with (first
        | (go_at_call 149; refine (SWC.out _ HO1.out).mono ?_; rintro x w2 ⟨rfl, h1, h2⟩; have E1 := Lib.hid h1; have E2 := Lib.hid (BEL.out.trans h2); clear h1 h2))
      refine bodyPost_end (results_none rfl _ _ _) rfl ?_
      refine ⟨rfl, ?_, E2.out⟩
      have h := E1.out
      have e : P ++ Yd ++ V ++ [] ++ U ++ (Xd ++ Q) = P ++ Y ++ X ++ Q := by
        have h := congrArg (fun l => P ++ l ++ Q) HD.out
        simpa using h
      rw [e] at h
      simpa only [List.append_assoc] using h
    · by_cases hgt : j < i
      · have q1 : ¬ (i : Int) = (j : Int) := by omega
        have q2 : (i : Int) > (j : Int) := by omega
        obtain ⟨d, hd⟩ : ∃ d, d = i - j := ⟨_, rfl⟩
        have q3 : (i : Int) - (j : Int) = (d : Int) := by omega
        have q4 : IntKind.i64.wrap (d : Int) = (d : Int) := by rw [IntKind.wrap_i64]; omega
        have HDD := Lib.hid (show d + j = i ∧ 0 < d ∧ 0 < j by omega)
        have eU : U.take j ++ U.drop j = U := List.take_append_drop _ _
        have lU : (U.take j).length = j ∧ (U.drop j).length = d := ⟨by rw [List.length_take, HUV.out.1]; omega, by rw [List.length_drop, HUV.out.1]; omega⟩
        obtain ⟨U1, hU1⟩ : ∃ U1, U1 = U.take j := ⟨_, rfl⟩
        obtain ⟨U2, hU2⟩ : ∃ U1, U1 = U.drop j := ⟨_, rfl⟩
        rw [← hU1, ← hU2] at eU lU
        have EU := Lib.hid eU
        have LU := Lib.hid lU
        have SWC := Lib.hid (fun w hw => SW.out (P ++ Yd) U1 U2 V (Xd ++ Q) j s m LU.out.1 HUV.out.2 (by rw [HS.out, List.length_append]) (by have := HMM.out; have := HDD.out; rw [List.length_append, LU.out.2]; omega) w hw)
        have HO1 := Lib.hid (show w1.ownsRow B 33 36 (.slice (some ⟨g, 0, none⟩) n cap) n (shsC (P ++ Yd ++ U1 ++ U2 ++ V ++ (Xd ++ Q))) by have h := HO.out; rw [← EU.out] at h; simpa using h)
        clear hU1 hU2 eU lU hd hmm hle hbn hi hj hij hgt
        go_wp2_with (first
          | (go_at_call 149; refine (SWC.out _ HO1.out).mono ?_; rintro x w2 ⟨rfl, h1, h2⟩; have E1 := Lib.hid h1; have E2 := Lib.hid (BEL.out.trans h2); clear h1 h2))
        refine ⟨⟨d, j, Yd ++ V, U2, U1, Xd, rfl, rfl, ⟨HDD.out.2.1, HDD.out.2.2⟩, ⟨LU.out.2, LU.out.1⟩, ⟨?_, ?_⟩, ?_, ?_, E2.out⟩, ?_⟩
        · have := HMM.out; have := HDD.out; rw [List.length_append, HUV.out.2]; omega
        · have := HMM.out; have := HDD.out; rw [List.length_append, HUV.out.2]; omega
        · have h := HD.out; rw [← EU.out] at h; simpa using h
        · have h := E1.out; simpa using h
        · have := HDD.out; simp [intOf] <;> omega
      · have q1 : ¬ (i : Int) = (j : Int) := by omega
        have q2 : ¬ (i : Int) > (j : Int) := by omega
        obtain ⟨d, hd⟩ : ∃ d, d = j - i := ⟨_, rfl⟩
        obtain ⟨t, ht⟩ : ∃ t, t = m + d := ⟨_, rfl⟩
        obtain ⟨r, hr⟩ : ∃ r, r = m + j := ⟨_, rfl⟩
        have q3 : (j : Int) - (i : Int) = (d : Int) := by omega
        have q4 : IntKind.i64.wrap (d : Int) = (d : Int) := by rw [IntKind.wrap_i64]; omega
        have q5 : (m : Int) + (j : Int) = (r : Int) := by omega
        have q6 : IntKind.i64.wrap (r : Int) = (r : Int) := by rw [IntKind.wrap_i64]; omega
        have q7 : (r : Int) - (i : Int) = (t : Int) := by omega
        have q8 : IntKind.i64.wrap (t : Int) = (t : Int) := by rw [IntKind.wrap_i64]; omega
        have HDD := Lib.hid (show d + i = j ∧ 0 < d ∧ 0 < i ∧ t = m + d by omega)
        have eU : V.take d ++ V.drop d = V := List.take_append_drop _ _
        have lU : (V.take d).length = d ∧ (V.drop d).length = i := ⟨by rw [List.length_take, HUV.out.2]; omega, by rw [List.length_drop, HUV.out.2]; omega⟩
        obtain ⟨V1, hU1⟩ : ∃ U1, U1 = V.take d := ⟨_, rfl⟩
        obtain ⟨V2, hU2⟩ : ∃ U1, U1 = V.drop d := ⟨_, rfl⟩
        rw [← hU1, ← hU2] at eU lU
        have EU := Lib.hid eU
        have LU := Lib.hid lU
        have SWC := Lib.hid (fun w hw => SW.out (P ++ Yd) U V1 V2 (Xd ++ Q) i s t HUV.out.1 LU.out.2 (by rw [HS.out, List.length_append]) (by have := HMM.out; have := HDD.out; rw [List.length_append, LU.out.1]; omega) w hw)
        have HO1 := Lib.hid (show w1.ownsRow B 33 36 (.slice (some ⟨g, 0, none⟩) n cap) n (shsC (P ++ Yd ++ U ++ V1 ++ V2 ++ (Xd ++ Q))) by have h := HO.out; rw [← EU.out] at h; simpa using h)
        clear hU1 hU2 eU lU hd ht hr hmm hle hbn hi hj hij hgt
        go_wp2_with (first
          | (go_at_call 149; refine (SWC.out _ HO1.out).mono ?_; rintro x w2 ⟨rfl, h1, h2⟩; have E1 := Lib.hid h1; have E2 := Lib.hid (BEL.out.trans h2); clear h1 h2))
        refine ⟨⟨i, d, Yd, V2, V1, U ++ Xd, rfl, rfl, ⟨HDD.out.2.2.1, HDD.out.2.1⟩, ⟨LU.out.2, LU.out.1⟩, ⟨?_, ?_⟩, ?_, ?_, E2.out⟩, ?_⟩
        · have := HMM.out; omega
        · have := HMM.out; have := HDD.out; omega
        · have h := HD.out; rw [← EU.out] at h; simpa using h
        · have h := E1.out; simpa using h
        · have := HDD.out; simp [intOf] <;> omega
end Go.Proofs.YtppmbdpfledejaaGreatDoor
