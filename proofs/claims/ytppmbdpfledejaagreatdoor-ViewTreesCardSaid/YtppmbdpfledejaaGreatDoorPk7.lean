/-
Texts that all claims of this seat share, part 7: JoinMem, SortIns, ViewMain, ViewFirsts, Octal, Header, Ustar, Files, OctalFace, Ref08.
-/
import Derived.Great.Walk
import Derived.WideMake
import Derived.Lib.AppendStr
import Derived.Laws.AppendOwn
import Derived.Test.YtppmbdpfledejaaGreatDoorProg
import Derived.StillTailTactics
import Derived.WalkKit
import Derived.Lib.Hide
import Derived.Deep.RegionWith
import Derived.WalkLawsBesides
import Derived.Deep.DeepCutAuto
import Derived.BigQuiet
import Derived.Deep.QuietTactic
import Derived.Test.YtppmbdpfledejaaGreatDoorPk6
namespace Go.Proofs.YtppmbdpfledejaaGreatDoor
open Go.RowKit
abbrev EVT : TypeId := 92
/-- A map of lists of events of the call's own: each in memory of its own. -/
def G1 (w : World) (N b nn : Nat) (g : List UInt8 → List (Ev × Value)) (m : List UInt8 → Option Value) : Prop :=
  RawM Tryz.prog 9 w b nn m ∧ b < N ∧ N ≤ w.heap.size ∧ (∀ p v, m p = some v → w.ownsRow N EVT 38 v (g p).length (evsC (g p))) ∧ (∀ p, m p = none → g p = []) ∧ ∀ p q v u, m p = some v → m q = some u → p ≠ q → v.ownBlock = none ∨ v.ownBlock ≠ u.ownBlock
/-- A map of lists of events, wherever these lie. -/
def G2 (w : World) (b nn : Nat) (g : List UInt8 → List (Ev × Value)) (m : List UInt8 → Option Value) : Prop :=
  RawM Tryz.prog 9 w b nn m ∧ (∀ p v, m p = some v → HoldsU w v (g p)) ∧ ∀ p, m p = none → g p = []
theorem wpList_lookup_raw {P : Program} {w : World} {ops : Array Oper} {rest : List Oper} {o : Oper} {a : Act} {Q : Exit → Act → World → Prop} (hg : o.guard = none) (mm x : Operand) (t : TypeId) (c : Bool) (ho : o.op = .lookup t mm x c) (b : Nat) (hm : a.eval mm = .map (some b)) (key v : Value) (hx : a.eval x = key)
    (hr : (Instr.lookup t (.map (some b)) key c).run P w = .ok v w) (h : wpList P ops Q rest (a.put o.dst v) w) : wpList P ops Q (o :: rest) a w := by
  refine wpList_plain hg fun K hK => ?_
  unfold Oper.wp
  simp [execOp, ho, hm, hx, hr, Result.andThen]
  exact hK _ _ h
theorem wpList_put_raw {P : Program} {w : World} {ops : Array Oper} {rest : List Oper} {o : Oper} {a : Act} {Q : Exit → Act → World → Prop} (hg : o.guard = none) (mm x y : Operand) (t k e : TypeId) (ho : o.op = .mapUpdate t mm x y) (b n : Nat) (m : List UInt8 → Option Value) (h : RawM P k w b n m) (hk : P.underlying k = some .string) (ht : P.underlying t = some (.map k e)) (hn : n < maxLen)
    (hm : a.eval mm = .map (some b)) (p : List UInt8) (hp : p.length ≤ maxLen) (hx : a.eval x = .string (str p)) (v : Value) (hy : a.eval y = v) (hK : ∀ w', RawM P k w' b (n + 1) (putM m p v) → w.grownBy w' (some b) → wpList P ops Q rest (a.put o.dst undef) w') : wpList P ops Q (o :: rest) a w := by
  refine wpList_plain hg fun K hK' => ?_
  obtain ⟨w', hr, h1, h2⟩ := rawM_put h hk ht hn p hp v
  unfold Oper.wp
  simp [execOp, ho, hm, hx, hy, hr, Result.andThen]
  exact hK' _ _ (hK w' h1 h2)
end Go.Proofs.YtppmbdpfledejaaGreatDoor
namespace Go.Proofs.YtppmbdpfledejaaGreatDoor
open Go.RowKit
set_option maxRecDepth 100000 in
theorem shSize : (Tryz.prog.info? 33).map (·.size) = some 36 := by kernel_rfl
theorem box_sh (w : World) (T : TypeId) (s : Sh) : ∀ j u, (shC s)[j]? = some u → (w.alloc (.cells (shC s) T (0, 0))).cell? ⟨w.heap.size, j, none⟩ = some u := fun j u hu => by
  have h := heap_last w (.cells (shC s) T (0, 0))
  simp only [World.cell?, h]; exact hu
set_option maxRecDepth 100000 in
set_option maxHeartbeats 16000000 in
theorem cmpSh_any (s t : Sh) (w : World) : Calls Tryz.prog 42 #[.agg (shC s), .agg (shC t)] w fun x w' => x = .returned (.int .i64 (cmpB s.path t.path)) ∧ Below w.heap.size w w' := by
  have h1 := box_sh w 33 s
  have h2 := box_sh (w.alloc (.cells (shC s) 33 (0, 0))) 33 t
  have b1 := (Below.refl w.heap.size w).alloc (Nat.le_refl _) (.cells (shC s) 33 (0, 0))
  have b2 := (Below.refl (w.alloc (.cells (shC s) 33 (0, 0))).heap.size (w.alloc (.cells (shC s) 33 (0, 0)))).alloc (Nat.le_refl _) (.cells (shC t) 33 (0, 0))
  have B0 := Lib.hid (below_next b1 b2)
  have c1 := cell_under12 (h1 0 _ (shC_at s).1) b2
  have c2 := h2 0 _ (shC_at t).1
  have CS := Lib.hid (fun w => cmpStr_any s.path t.path w)
  obtain ⟨c, hc⟩ : ∃ c, cmpB s.path t.path = c := ⟨_, rfl⟩
  rw [hc] at CS ⊢
  clear h1 h2 b1 b2 hc
  go_enter Tryz.func42, Tryz.ntmps42
  go_upto_region 1 with fail
  simp only [size_of_alloc] at c2
  generalize (w.alloc (.cells (shC s) 33 (0, 0))).alloc (.cells (shC t) 33 (0, 0)) = W0 at *
  go_wp2_with (first
    | (go_at_call 43; refine (CS.out _).mono ?_; rintro x w1 ⟨rfl, rfl⟩))
  go_ret
  exact ⟨rfl, B0.out⟩
/-- A function that compares what is shown by its paths. -/
def CmpF (F : FuncId) : Prop := (∀ (s t : Sh) (w : World), Calls Tryz.prog F #[.agg (shC s), .agg (shC t)] w fun x w' => x = .returned (.int .i64 (cmpB s.path t.path)) ∧ Below w.heap.size w w') ∧ ∀ vs w, (callFunc F vs).run Tryz.prog w = .ok (.enter F vs) w
theorem cmpF_view : CmpF 42 := ⟨cmpSh_any, (enters_of Tryz.func42 (by kernel_rfl) rfl)⟩
theorem swap_sets {α : Type} (P : List α) (y x : α) (R : List α) (k : Nat) (hk : k = P.length) : ((P ++ y :: x :: R).set (k + 1) y).set k x = P ++ x :: y :: R := by
  subst hk
  rw [List.set_append_right _ _ (by omega), List.set_append_right _ _ (by omega)]
  simp
theorem at_pre {α : Type} (P : List α) (x : α) (R : List α) (k : Nat) (hk : k = P.length) : (P ++ x :: R)[k]? = some x := by
  subst hk; rw [List.getElem?_append_right (Nat.le_refl _)]; simp
theorem seg_snoc {α : Type} {l : List α} {a i : Nat} {x : α} (hx : l[i]? = some x) (hai : a ≤ i) : (l.take (i + 1)).drop a = (l.take i).drop a ++ [x] := by
  rw [List.take_add_one, hx, List.drop_append]
  have hi := (List.getElem?_eq_some_iff.1 hx).1
  rw [List.length_take, Nat.min_eq_left (by omega), show a - i = 0 by omega]; rfl
theorem drop_at {α : Type} {l : List α} {i : Nat} {x : α} (hx : l[i]? = some x) : l.drop i = x :: l.drop (i + 1) := by
  obtain ⟨hi, rfl⟩ := List.getElem?_eq_some_iff.1 hx
  exact List.drop_eq_getElem_cons hi
theorem stable_snoc {key : Sh → List UInt8} {l S S' : List Sh} {x : Sh} (h : StableK key l S) (h2 : StableK key (S ++ [x]) S') : StableK key (l ++ [x]) S' :=
  ⟨h2.1, fun p => by rw [h2.2.1, fltK_append, fltK_append, h.2.1], by rw [h2.2.2, List.length_append, List.length_append, h.2.2]⟩
theorem lt_cmp (s t : Sh) : decide (cmpB s.path t.path < 0) = ltK Sh.path s t := by
  unfold ltK
  rcases cmpB_cases s.path t.path with ⟨h1, h2⟩ | ⟨h1, h2, -⟩ | ⟨h1, h2, -⟩
  · rw [h1, h2, bytesLess_irrefl]; rfl
  · rw [h1, h2]; rfl
  · rw [h1, bl_asymm h2]; rfl
theorem sorted_last {key : Sh → List UInt8} {A : List Sh} {y x : Sh} (h : SortedK key (A ++ [y])) (hx : ltK key x y = false) : ∀ z ∈ A ++ [y], leK key z x := by
  obtain ⟨h1, h2, h3⟩ := sorted_append.1 h
  intro z hz
  rcases List.mem_append.1 hz with hz | hz
  · exact leK_trans (h3 z hz y (by simp)) hx
  · rw [List.mem_singleton.1 hz]; exact hx
theorem opH_shA {P : Program} {md : Region.Mode} {ops : Array Oper} {Q : Exit → Act → World → Prop} {S : World → Prop} {fuel : Nat} {listed : Array Bool} {ts : Array Value} {ds : List Deferred} {w : World} {i : Nat} {o : Oper} (d : Nat) (hoi : ops[i]? = some o) (hd : o.dst = some d) (hw : Region.wanted o (yielded ops ts) = true)
    (ty : TypeId) (x : Operand) (ho : o.op = .load ty x) (A : Addr) (hx : Act.eval { tmps := ts, defers := ds } x = .pointer (some A)) {s : Sh} {fs : Array Field} (hu : P.underlying ty = some (.struct fs)) (hi : (P.info? ty).map (·.size) = some 36) (hc : ∀ j u, (shC s)[j]? = some u → w.cell? (A.add j) = some u)
    (hS : S w) (h : wpAnyH P md ops Q S fuel (listed.setIfInBounds i true) { tmps := ts.setIfInBounds d (.agg (shC s)), defers := ds } w) : OpH P md ops Q S fuel listed { tmps := ts, defers := ds } w i :=
  opH_list hoi (load_shA_on hw ty x ho A hx hu hi hc (opH_end hS (by rw [hd]; exact h)))
theorem solo_in {g B : Nat} {w0 w w' : World} (hb : Below B w0 w) (h : Solo g w w') (hg : B ≤ g) : Below B w0 w' :=
  hb.trans ⟨h.os, h.tape, h.output, Nat.le_of_eq h.size.symm, fun j hj => h.block j (by omega)⟩
theorem below_in {B : Nat} {w w1 w2 : World} (h1 : Below B w w1) (hB : B ≤ w.heap.size) (h2 : Below w1.heap.size w1 w2) : Below B w w2 := h1.trans (h2.mono (Nat.le_trans hB h1.size))
theorem own_in {B : Nat} {T : TypeId} {g n cap : Nat} {xs : List Value} {w : World} (h : w.ownsRow B T 36 (.slice (some ⟨g, 0, none⟩) n cap) n xs) : B ≤ g ∧ B ≤ w.heap.size := by
  rcases h.2 with ⟨h0, -⟩ | ⟨g', cap', cur, e, h1, h2, -⟩
  · cases h0
  · simp only [Value.slice.injEq, Option.some.injEq, Addr.mk.injEq] at e
    obtain ⟨⟨rfl, -⟩, -, rfl⟩ := e
    exact ⟨h1, Nat.le_trans h1 (Nat.le_of_lt (Array.getElem?_eq_some_iff.1 h2).1)⟩
theorem own_sh {B : Nat} {T : TypeId} {g n cap : Nat} {l : List Sh} {w : World} (h : w.ownsRow B T 36 (.slice (some ⟨g, 0, none⟩) n cap) n (shsC l)) (k : Nat) (s : Sh) (hs : l[k]? = some s) : ∀ j u, (shC s)[j]? = some u → w.cell? ((⟨g, k * 36, none⟩ : Addr).add j) = some u := fun j u hu => by
  have e : (⟨g, k * 36, none⟩ : Addr).add j = (⟨g, 0, none⟩ : Addr).add (k * 36 + j) := by
    simp only [Addr.add, Nat.zero_add]
    by_cases hj : j = 0
    · subst hj
      rw [if_pos rfl]
      split
      · next h => rw [show k * 36 = 0 by omega]
      · rfl
    · rw [if_neg hj, if_neg (by omega)]
  rw [e]
  exact h.cells rfl (k * 36 + j) u (shsC_at l k s hs j u hu)
set_option linter.unusedSimpArgs false in
set_option maxRecDepth 100000 in
set_option maxHeartbeats 16000000 in
theorem insertSh_any (F : FuncId) (hF : CmpF F) (l : List Sh) (a b n cap g B : Nat) (hn : n = l.length) (hn5 : n ≤ 50000) (hab : a ≤ b) (hbn : b ≤ n) (w : World) (hw : w.ownsRow B 33 36 (.slice (some ⟨g, 0, none⟩) n cap) n (shsC l)) :
    Calls Tryz.prog 104 #[.slice (some ⟨g, 0, none⟩) n cap, .int .i64 (a : Int), .int .i64 (b : Int), .func (.func F) #[] #[]] w fun x w' => x = .returned (.tuple #[]) ∧ ∃ S, StableK Sh.path ((l.take b).drop a) S ∧ w'.ownsRow B 33 36 (.slice (some ⟨g, 0, none⟩) n cap) n (shsC (l.take a ++ S ++ l.drop b)) ∧ Below B w w' := by
  have HN := Lib.hid hn
  obtain ⟨hBg, hB0⟩ := own_in hw
  have HBG := Lib.hid hBg
  have HB0 := Lib.hid hB0
  have HW := Lib.hid hw
  have CMF := Lib.hid hF
  have qa1 : IntKind.i64.wrap ((a : Int) + 1) = ((a + 1 : Nat) : Int) := by rw [IntKind.wrap_i64]; omega
  clear hn hw hBg hB0 hF
  go_enter Tryz.func104, Tryz.ntmps104
  go_wp2
  go_loopw [8, 9] (fun c d wr => ∃ (i m : Nat) (S : List Sh), c = .int .i64 (i : Int) ∧ a + 1 ≤ i ∧ i ≤ b + 1 ∧ (i ≤ b → m = i) ∧ (b ≤ i → m = b) ∧ StableK Sh.path ((l.take m).drop a) S ∧ wr.ownsRow B 33 36 (.slice (some ⟨g, 0, none⟩) n cap) n (shsC (l.take a ++ S ++ l.drop m)) ∧ Below B w wr) (fun c _ _ => b + 1 - (intOf c).toNat)
  case atStart =>
    by_cases h : a < b
    · obtain ⟨x, hx⟩ : ∃ x, l[a]? = some x := ⟨_, List.getElem?_eq_getElem (by have := HN.out; omega)⟩
      refine ⟨a + 1, a + 1, [x], rfl, by omega, by omega, fun _ => rfl, fun h2 => by omega, ?_, ?_, Below.refl _ _⟩
      · rw [seg_snoc hx (Nat.le_refl _), List.drop_take, Nat.sub_self, List.take_zero, List.nil_append]
        exact stable_sorted (List.pairwise_singleton _ _)
      · rw [List.append_assoc, List.singleton_append, ← drop_at hx, List.take_append_drop]; exact HW.out
    · refine ⟨a + 1, b, [], rfl, by omega, by omega, fun h2 => by omega, fun _ => rfl, ?_, ?_, Below.refl _ _⟩
      · rw [show a = b by omega, List.drop_take, Nat.sub_self, List.take_zero]; exact stable_nil
      · rw [List.append_nil, show a = b by omega, List.take_append_drop]; exact HW.out
  case round =>
    obtain ⟨i, m, S, rfl, hi1, hi2, hm1, hm2, hst, hown, hb⟩ := hrel
    have HB1 := Lib.hid hb
    clear hb
    by_cases hib : i < b
    · rw [hm1 (by omega)] at hst hown
      obtain ⟨x, hx⟩ : ∃ x, l[i]? = some x := ⟨_, List.getElem?_eq_getElem (by have := HN.out; omega)⟩
      have HX := Lib.hid hx
      have hSL : S.length = i - a := by rw [hst.2.2, List.length_drop, List.length_take]; have := HN.out; omega
      have HSL := Lib.hid hSL
      have HST := Lib.hid hst
      have HOW := Lib.hid hown
      clear hm1 hm2 hst hown hx hSL
      have q1 : (i : Int) < (b : Int) := by omega
      have qi1 : IntKind.i64.wrap ((i : Int) + 1) = ((i + 1 : Nat) : Int) := by rw [IntKind.wrap_i64]; omega
      generalize wr = w1 at *
      go_wp2
      go_loopw [9] (fun c wr => ∃ (j : Nat) (A R : List Sh), c = .int .i64 (j : Int) ∧ j = a + A.length ∧ A ++ R = S ∧ (∀ r ∈ R, ltK Sh.path x r = true) ∧ wr.ownsRow B 33 36 (.slice (some ⟨g, 0, none⟩) n cap) n (shsC (l.take a ++ A ++ x :: (R ++ l.drop (i + 1)))) ∧ Below B w wr) (fun c _ => (intOf c).toNat)
      case atStart =>
        refine ⟨i, S, [], rfl, by have := HSL.out; omega, List.append_nil _, (fun r h => by cases h), ?_, HB1.out⟩
        rw [List.nil_append, ← drop_at HX.out]; exact HOW.out
      case round =>
        obtain ⟨j, A, R, rfl, hj, hAR, hR, ho, hb2⟩ := hrel
        have HAR := Lib.hid hAR
        have HR := Lib.hid hR
        have HB2 := Lib.hid hb2
        have hji : j ≤ i := by
          have h1 := congrArg List.length hAR
          rw [List.length_append, HSL.out] at h1; omega
        clear hAR hR hb2
        by_cases haj : a < j
        · obtain ⟨A0, y, rfl⟩ : ∃ A0 y, A = A0 ++ [y] := by
            rcases List.eq_nil_or_concat A with h | ⟨A0, y, h⟩
            · rw [h] at hj; simp at hj; omega
            · exact ⟨A0, y, by rw [h, List.concat_eq_append]⟩
          obtain ⟨p, hp⟩ : ∃ p, p = a + A0.length := ⟨_, rfl⟩
          have hjp : j = p + 1 := by rw [hj, List.length_append, List.length_singleton, hp]; rfl
          obtain ⟨P, hP⟩ : ∃ P, P = l.take a ++ A0 := ⟨_, rfl⟩
          obtain ⟨U, hU⟩ : ∃ U, U = R ++ l.drop (i + 1) := ⟨_, rfl⟩
          have hPl : p = P.length := by rw [hP, List.length_append, List.length_take]; have := HN.out; omega
          have ho2 : wr.ownsRow B 33 36 (.slice (some ⟨g, 0, none⟩) n cap) n (shsC (P ++ y :: x :: U)) := by
            have e : l.take a ++ (A0 ++ [y]) ++ x :: (R ++ l.drop (i + 1)) = P ++ y :: x :: U := by rw [hP, hU]; simp
            rw [← e]; exact ho
          have HIY := Lib.hid (show (P ++ y :: x :: U)[p]? = some y from at_pre P y _ p hPl)
          have HIX := Lib.hid (show (P ++ y :: x :: U)[j]? = some x by
            have h := at_pre (P ++ [y]) x U j (by rw [List.length_append, List.length_singleton]; omega)
            rw [List.append_assoc] at h; exact h)
          have HLN := Lib.hid (show n = (P ++ y :: x :: U).length by
            have h := ho2.1
            rw [shsC_length] at h
            exact (Nat.eq_of_mul_eq_mul_right (by decide) h).symm)
          have CX := Lib.hid (own_sh ho2 j x HIX.out)
          have CY := Lib.hid (own_sh ho2 p y HIY.out)
          have HO2 := Lib.hid ho2
          have HP := Lib.hid hP
          have HU := Lib.hid hU
          have HPL := Lib.hid hPl
          have HPA := Lib.hid hp
          have HJP := Lib.hid hjp
          have q2 : (j : Int) > (a : Int) := by omega
          have q3 : (j : Int) < (n : Int) := by omega
          have q4 : j < n := by omega
          have q5 : (j : Int) - 1 = (p : Int) := by omega
          have q6 : IntKind.i64.wrap (p : Int) = (p : Int) := by rw [IntKind.wrap_i64]; omega
          have q7 : (p : Int) < (n : Int) := by omega
          have q8 : p < n := by omega
          obtain ⟨c, hc⟩ : ∃ c, cmpB x.path y.path = c := ⟨_, rfl⟩
          have HC := Lib.hid hc
          have HLT := Lib.hid (lt_cmp x y)
          clear ho ho2 hP hU hPl hp hc hj
          generalize wr = w2 at *
          by_cases hc0 : c < 0
          · have q9 : decide (c < 0) = true := decide_eq_true hc0
            have HXY := Lib.hid (show ltK Sh.path x y = true by rw [← HLT.out, HC.out]; exact q9)
            clear hc0 hjp
            go_upto_region 4 with fail
            refine wp_region_held_drew (S := fun w' => Below w2.heap.size w2 w') (by kernel_rfl) (drawS (Below.refl _ _)) (fun hHeld => ?_)
            generalize w2.drew = wd at hHeld ⊢
            refine take_at (i := 0) 18 rfl rfl (by kernel_rfl) (by kernel_rfl) (by kernel_rfl) (fun _ _ _ h => h) (sure_yes (by rfl) (fun w => by go_simp; try with_reducible rfl)) hHeld ?_
            simp only [List.setIfInBounds_toArray, List.set_cons_zero, List.set_cons_succ]
            refine take_at (i := 1) 19 rfl rfl (by kernel_rfl) (by kernel_rfl) (by kernel_rfl) (fun _ _ _ h => h) (sure_yes (by rfl) (fun w => by go_simp; try with_reducible rfl)) hHeld ?_
            simp only [List.setIfInBounds_toArray, List.set_cons_zero, List.set_cons_succ]
            refine take_at (i := 2) 20 rfl rfl (by kernel_rfl) (by kernel_rfl) (by kernel_rfl) (fun _ _ _ h => h) (sure_yes (by rfl) (fun w => by go_simp; try with_reducible rfl)) hHeld ?_
            simp only [List.setIfInBounds_toArray, List.set_cons_zero, List.set_cons_succ]
            refine take_at (i := 3) 21 rfl rfl (by kernel_rfl) (by kernel_rfl) (by kernel_rfl) (fun _ _ _ h => h) (sure_yes (by rfl) (fun w => by go_simp; try with_reducible rfl)) hHeld ?_
            simp only [List.setIfInBounds_toArray, List.set_cons_zero, List.set_cons_succ]
            refine take_at (i := 4) 22 rfl rfl (by kernel_rfl) (by kernel_rfl) (by kernel_rfl) (fun _ _ _ h => h) (sure_yes (by rfl) (fun w => by go_simp; try with_reducible rfl)) hHeld ?_
            simp only [List.setIfInBounds_toArray, List.set_cons_zero, List.set_cons_succ]
            refine take_at (i := 5) 23 rfl rfl (by kernel_rfl) (by kernel_rfl) (by kernel_rfl) (fun _ _ _ h => h) (sure_yes (by rfl) (fun w => by go_simp; try with_reducible rfl)) hHeld ?_
            simp only [List.setIfInBounds_toArray, List.set_cons_zero, List.set_cons_succ]
            refine take_at (i := 6) 24 rfl rfl (by kernel_rfl) (by kernel_rfl) (by kernel_rfl) (fun _ _ _ h => h) (sure_yes (by rfl) (fun w => by go_simp; try with_reducible rfl)) hHeld ?_
            simp only [List.setIfInBounds_toArray, List.set_cons_zero, List.set_cons_succ]
            refine take_at (i := 7) 25 rfl rfl (by kernel_rfl) (by kernel_rfl) (by kernel_rfl) (fun _ _ _ h => h) (sure_yes (by rfl) (fun w => by go_simp; try with_reducible rfl)) hHeld ?_
            simp only [List.setIfInBounds_toArray, List.set_cons_zero, List.set_cons_succ]
            refine take_at (i := 9) 27 rfl rfl (by kernel_rfl) (by kernel_rfl) (by kernel_rfl) (fun _ _ _ h => h) (sure_yes (by rfl) (fun w => by go_simp; try with_reducible rfl)) hHeld ?_
            simp only [List.setIfInBounds_toArray, List.set_cons_zero, List.set_cons_succ]
            refine take_at (i := 10) 28 rfl rfl (by kernel_rfl) (by kernel_rfl) (by kernel_rfl) (fun _ _ _ h => h) (sure_yes (by rfl) (fun w => by go_simp; try with_reducible rfl)) hHeld ?_
            simp only [List.setIfInBounds_toArray, List.set_cons_zero, List.set_cons_succ]
            refine take_at (i := 11) 29 rfl rfl (by kernel_rfl) (by kernel_rfl) (by kernel_rfl) (fun _ _ _ h => h) (sure_yes (by rfl) (fun w => by go_simp; try with_reducible rfl)) hHeld ?_
            simp only [List.setIfInBounds_toArray, List.set_cons_zero, List.set_cons_succ]
            refine take_at (i := 12) 30 rfl rfl (by kernel_rfl) (by kernel_rfl) (by kernel_rfl) (fun _ _ _ h => h) (sure_yes (by rfl) (fun w => by go_simp; try with_reducible rfl)) hHeld ?_
            simp only [List.setIfInBounds_toArray, List.set_cons_zero, List.set_cons_succ]
            refine take_at (i := 8) 26 rfl rfl (by kernel_rfl) (by kernel_rfl) (by kernel_rfl) (fun _ _ _ h => h) (shA_yields (by rfl) 33 (.tmp 25) rfl ⟨g, j * 36, none⟩ rfl Tryz.underlying33 shSize (fun w h j u hu => cell_under12 (CX.out j u hu) h)) hHeld ?_
            simp only [List.setIfInBounds_toArray, List.set_cons_zero, List.set_cons_succ]
            refine take_at (i := 13) 31 rfl rfl (by kernel_rfl) (by kernel_rfl) (by kernel_rfl) (fun _ _ _ h => h) (shA_yields (by rfl) 33 (.tmp 30) rfl ⟨g, p * 36, none⟩ rfl Tryz.underlying33 shSize (fun w h j u hu => cell_under12 (CY.out j u hu) h)) hHeld ?_
            simp only [List.setIfInBounds_toArray, List.set_cons_zero, List.set_cons_succ]
            refine ready_one 14 (by kernel_rfl) ?_
            refine opH_c2 32 rfl rfl (by rfl) F (.tmp 22) (.tmp 26) (.tmp 31) 33 33 rfl rfl (.agg (shC x)) (.agg (shC y)) rfl rfl CMF.out.2 _ (CMF.out.1 x y _) ?_
            rintro x wz ⟨rfl, hb⟩
            refine ⟨_, rfl, below_next hHeld hb, ?_⟩
            replace hHeld := below_next hHeld hb
            rw [HC.out]
            clear hb
            simp only [List.setIfInBounds_toArray, List.set_cons_zero, List.set_cons_succ]
            refine take_at (i := 15) 33 rfl rfl (by kernel_rfl) (by kernel_rfl) (by kernel_rfl) (fun _ _ _ h => h) (sure_yes (by rfl) (fun w => by go_simp; try with_reducible rfl)) hHeld ?_
            simp only [List.setIfInBounds_toArray, List.set_cons_zero, List.set_cons_succ]
            refine take_at (i := 16) 34 rfl rfl (by kernel_rfl) (by kernel_rfl) (by kernel_rfl) (fun _ _ _ h => h) (sure_yes (by rfl) (fun w => by go_simp; try with_reducible rfl)) hHeld ?_
            simp only [List.setIfInBounds_toArray, List.set_cons_zero, List.set_cons_succ]
            refine wpAnyH_done (by kernel_rfl) ?_ _
            have Z := Lib.hid hHeld
            clear hHeld
            have OWN := Lib.hid (own_below HO2.out Z.out)
            have BEL := Lib.hid (below_in HB2.out HB0.out Z.out)
            generalize wz = w3 at *
            go_upto_region 6 with fail
            have OD := Lib.hid (own_below OWN.out (drawS (Below.refl w3.heap.size w3)))
            have BD := Lib.hid (below_in BEL.out HB0.out (drawS (Below.refl w3.heap.size w3)))
            refine wp_region_held_drew (S := fun _ => True) (by kernel_rfl) trivial (fun hHeld => ?_)
            generalize w3.drew = we at OD BD ⊢
            have CXD := Lib.hid (own_sh OD.out j x HIX.out)
            have CYD := Lib.hid (own_sh OD.out p y HIY.out)
            refine take_at (i := 0) 37 rfl rfl (by kernel_rfl) (by kernel_rfl) (by kernel_rfl) (fun _ _ _ h => h) (sure_yes (by rfl) (fun w => by go_simp; try with_reducible rfl)) hHeld ?_
            simp only [List.setIfInBounds_toArray, List.set_cons_zero, List.set_cons_succ]
            refine take_at (i := 1) 38 rfl rfl (by kernel_rfl) (by kernel_rfl) (by kernel_rfl) (fun _ _ _ h => h) (sure_yes (by rfl) (fun w => by go_simp; try with_reducible rfl)) hHeld ?_
            simp only [List.setIfInBounds_toArray, List.set_cons_zero, List.set_cons_succ]
            refine take_at (i := 2) 39 rfl rfl (by kernel_rfl) (by kernel_rfl) (by kernel_rfl) (fun _ _ _ h => h) (sure_yes (by rfl) (fun w => by go_simp; try with_reducible rfl)) hHeld ?_
            simp only [List.setIfInBounds_toArray, List.set_cons_zero, List.set_cons_succ]
            refine take_at (i := 3) 40 rfl rfl (by kernel_rfl) (by kernel_rfl) (by kernel_rfl) (fun _ _ _ h => h) (sure_yes (by rfl) (fun w => by go_simp; try with_reducible rfl)) hHeld ?_
            simp only [List.setIfInBounds_toArray, List.set_cons_zero, List.set_cons_succ]
            refine take_at (i := 4) 41 rfl rfl (by kernel_rfl) (by kernel_rfl) (by kernel_rfl) (fun _ _ _ h => h) (sure_yes (by rfl) (fun w => by go_simp; try with_reducible rfl)) hHeld ?_
            simp only [List.setIfInBounds_toArray, List.set_cons_zero, List.set_cons_succ]
            refine take_at (i := 5) 42 rfl rfl (by kernel_rfl) (by kernel_rfl) (by kernel_rfl) (fun _ _ _ h => h) (sure_yes (by rfl) (fun w => by go_simp; try with_reducible rfl)) hHeld ?_
            simp only [List.setIfInBounds_toArray, List.set_cons_zero, List.set_cons_succ]
            refine take_at (i := 6) 43 rfl rfl (by kernel_rfl) (by kernel_rfl) (by kernel_rfl) (fun _ _ _ h => h) (sure_yes (by rfl) (fun w => by go_simp; try with_reducible rfl)) hHeld ?_
            simp only [List.setIfInBounds_toArray, List.set_cons_zero, List.set_cons_succ]
            refine take_at (i := 7) 44 rfl rfl (by kernel_rfl) (by kernel_rfl) (by kernel_rfl) (fun _ _ _ h => h) (sure_yes (by rfl) (fun w => by go_simp; try with_reducible rfl)) hHeld ?_
            simp only [List.setIfInBounds_toArray, List.set_cons_zero, List.set_cons_succ]
            refine take_at (i := 8) 45 rfl rfl (by kernel_rfl) (by kernel_rfl) (by kernel_rfl) (fun _ _ _ h => h) (sure_yes (by rfl) (fun w => by go_simp; try with_reducible rfl)) hHeld ?_
            simp only [List.setIfInBounds_toArray, List.set_cons_zero, List.set_cons_succ]
            refine take_at (i := 10) 47 rfl rfl (by kernel_rfl) (by kernel_rfl) (by kernel_rfl) (fun _ _ _ h => h) (sure_yes (by rfl) (fun w => by go_simp; try with_reducible rfl)) hHeld ?_
            simp only [List.setIfInBounds_toArray, List.set_cons_zero, List.set_cons_succ]
            refine take_at (i := 11) 48 rfl rfl (by kernel_rfl) (by kernel_rfl) (by kernel_rfl) (fun _ _ _ h => h) (sure_yes (by rfl) (fun w => by go_simp; try with_reducible rfl)) hHeld ?_
            simp only [List.setIfInBounds_toArray, List.set_cons_zero, List.set_cons_succ]
            refine take_at (i := 12) 49 rfl rfl (by kernel_rfl) (by kernel_rfl) (by kernel_rfl) (fun _ _ _ h => h) (sure_yes (by rfl) (fun w => by go_simp; try with_reducible rfl)) hHeld ?_
            simp only [List.setIfInBounds_toArray, List.set_cons_zero, List.set_cons_succ]
            refine ready_two 9 13 (by kernel_rfl) ?_ ?_
            · refine opH_shA 46 rfl rfl (by rfl) 33 (.tmp 45) rfl ⟨g, p * 36, none⟩ rfl Tryz.underlying33 shSize CYD.out trivial ?_
              simp only [Act.put, List.setIfInBounds_toArray, List.set_cons_zero, List.set_cons_succ]
              refine ready_one 13 (by kernel_rfl) ?_
              refine opH_shA 50 rfl rfl (by rfl) 33 (.tmp 49) rfl ⟨g, j * 36, none⟩ rfl Tryz.underlying33 shSize CXD.out trivial ?_
              simp only [Act.put, List.setIfInBounds_toArray, List.set_cons_zero, List.set_cons_succ]
              refine take_at (i := 14) 51 rfl rfl (by kernel_rfl) (by kernel_rfl) (by kernel_rfl) (fun _ _ _ h => h) (sure_yes (by rfl) (fun w => by go_simp; try with_reducible rfl)) hHeld ?_
              simp only [List.setIfInBounds_toArray, List.set_cons_zero, List.set_cons_succ]
              refine ready_one 15 (by kernel_rfl) ?_
              refine opH_list rfl ?_
              refine store_sh rfl 33 (.tmp 51) (.tmp 46) rfl rfl B 33 g n cap j _ OD.out HLN.out (by omega) _ rfl rfl y rfl shSize ?_
              intro wf ho hs
              refine opH_end trivial ?_
              have O1 := Lib.hid ho
              have B1 := Lib.hid (solo_in BD.out hs HBG.out)
              clear ho hs
              refine take_at (i := 16) 52 rfl rfl (by kernel_rfl) (by kernel_rfl) (by kernel_rfl) (fun _ _ _ h => h) (sure_yes (by rfl) (fun w => by go_simp; try with_reducible rfl)) hHeld ?_
              simp only [List.setIfInBounds_toArray, List.set_cons_zero, List.set_cons_succ]
              refine ready_one 17 (by kernel_rfl) ?_
              refine opH_list rfl ?_
              refine store_sh rfl 33 (.tmp 52) (.tmp 50) rfl rfl B 33 g n cap p _ O1.out (by rw [List.length_set]; exact HLN.out) (by omega) _ rfl rfl x rfl shSize ?_
              intro wh ho hs
              refine opH_end trivial ?_
              have O2 := Lib.hid ho
              have B2 := Lib.hid (solo_in B1.out hs HBG.out)
              clear ho hs
              refine wpAnyH_done (by kernel_rfl) ?_ _
              clear hHeld
              go_wp2
              go_roundw
              case rel => exact ⟨p, A0, y :: R, by go_num, HPA.out, by rw [← HAR.out]; simp, fun r hr => by
                rcases List.mem_cons.1 hr with rfl | hr
                · exact HXY.out
                · exact HR.out r hr, by
                have h := O2.out
                rw [HJP.out, swap_sets P y x U p HPL.out, HP.out, HU.out] at h; exact h, B2.out⟩
              case measure => simp [intOf] <;> omega
            · refine opH_shA 50 rfl rfl (by rfl) 33 (.tmp 49) rfl ⟨g, j * 36, none⟩ rfl Tryz.underlying33 shSize CXD.out trivial ?_
              simp only [Act.put, List.setIfInBounds_toArray, List.set_cons_zero, List.set_cons_succ]
              refine ready_one 9 (by kernel_rfl) ?_
              refine opH_shA 46 rfl rfl (by rfl) 33 (.tmp 45) rfl ⟨g, p * 36, none⟩ rfl Tryz.underlying33 shSize CYD.out trivial ?_
              simp only [Act.put, List.setIfInBounds_toArray, List.set_cons_zero, List.set_cons_succ]
              refine take_at (i := 14) 51 rfl rfl (by kernel_rfl) (by kernel_rfl) (by kernel_rfl) (fun _ _ _ h => h) (sure_yes (by rfl) (fun w => by go_simp; try with_reducible rfl)) hHeld ?_
              simp only [List.setIfInBounds_toArray, List.set_cons_zero, List.set_cons_succ]
              refine ready_one 15 (by kernel_rfl) ?_
              refine opH_list rfl ?_
              refine store_sh rfl 33 (.tmp 51) (.tmp 46) rfl rfl B 33 g n cap j _ OD.out HLN.out (by omega) _ rfl rfl y rfl shSize ?_
              intro wf ho hs
              refine opH_end trivial ?_
              have O1 := Lib.hid ho
              have B1 := Lib.hid (solo_in BD.out hs HBG.out)
              clear ho hs
              refine take_at (i := 16) 52 rfl rfl (by kernel_rfl) (by kernel_rfl) (by kernel_rfl) (fun _ _ _ h => h) (sure_yes (by rfl) (fun w => by go_simp; try with_reducible rfl)) hHeld ?_
              simp only [List.setIfInBounds_toArray, List.set_cons_zero, List.set_cons_succ]
              refine ready_one 17 (by kernel_rfl) ?_
              refine opH_list rfl ?_
              refine store_sh rfl 33 (.tmp 52) (.tmp 50) rfl rfl B 33 g n cap p _ O1.out (by rw [List.length_set]; exact HLN.out) (by omega) _ rfl rfl x rfl shSize ?_
              intro wh ho hs
              refine opH_end trivial ?_
              have O2 := Lib.hid ho
              have B2 := Lib.hid (solo_in B1.out hs HBG.out)
              clear ho hs
              refine wpAnyH_done (by kernel_rfl) ?_ _
              clear hHeld
              go_wp2
              go_roundw
              case rel => exact ⟨p, A0, y :: R, by go_num, HPA.out, by rw [← HAR.out]; simp, fun r hr => by
                rcases List.mem_cons.1 hr with rfl | hr
                · exact HXY.out
                · exact HR.out r hr, by
                have h := O2.out
                rw [HJP.out, swap_sets P y x U p HPL.out, HP.out, HU.out] at h; exact h, B2.out⟩
              case measure => simp [intOf] <;> omega
          · have q9 : decide (c < 0) = false := decide_eq_false hc0
            have HXY := Lib.hid (show ltK Sh.path x y = false by rw [← HLT.out, HC.out]; exact q9)
            clear hc0 hjp
            go_upto_region 4 with fail
            refine wp_region_held_drew (S := fun w' => Below w2.heap.size w2 w') (by kernel_rfl) (drawS (Below.refl _ _)) (fun hHeld => ?_)
            generalize w2.drew = wd at hHeld ⊢
            refine take_at (i := 0) 18 rfl rfl (by kernel_rfl) (by kernel_rfl) (by kernel_rfl) (fun _ _ _ h => h) (sure_yes (by rfl) (fun w => by go_simp; try with_reducible rfl)) hHeld ?_
            simp only [List.setIfInBounds_toArray, List.set_cons_zero, List.set_cons_succ]
            refine take_at (i := 1) 19 rfl rfl (by kernel_rfl) (by kernel_rfl) (by kernel_rfl) (fun _ _ _ h => h) (sure_yes (by rfl) (fun w => by go_simp; try with_reducible rfl)) hHeld ?_
            simp only [List.setIfInBounds_toArray, List.set_cons_zero, List.set_cons_succ]
            refine take_at (i := 2) 20 rfl rfl (by kernel_rfl) (by kernel_rfl) (by kernel_rfl) (fun _ _ _ h => h) (sure_yes (by rfl) (fun w => by go_simp; try with_reducible rfl)) hHeld ?_
            simp only [List.setIfInBounds_toArray, List.set_cons_zero, List.set_cons_succ]
            refine take_at (i := 3) 21 rfl rfl (by kernel_rfl) (by kernel_rfl) (by kernel_rfl) (fun _ _ _ h => h) (sure_yes (by rfl) (fun w => by go_simp; try with_reducible rfl)) hHeld ?_
            simp only [List.setIfInBounds_toArray, List.set_cons_zero, List.set_cons_succ]
            refine take_at (i := 4) 22 rfl rfl (by kernel_rfl) (by kernel_rfl) (by kernel_rfl) (fun _ _ _ h => h) (sure_yes (by rfl) (fun w => by go_simp; try with_reducible rfl)) hHeld ?_
            simp only [List.setIfInBounds_toArray, List.set_cons_zero, List.set_cons_succ]
            refine take_at (i := 5) 23 rfl rfl (by kernel_rfl) (by kernel_rfl) (by kernel_rfl) (fun _ _ _ h => h) (sure_yes (by rfl) (fun w => by go_simp; try with_reducible rfl)) hHeld ?_
            simp only [List.setIfInBounds_toArray, List.set_cons_zero, List.set_cons_succ]
            refine take_at (i := 6) 24 rfl rfl (by kernel_rfl) (by kernel_rfl) (by kernel_rfl) (fun _ _ _ h => h) (sure_yes (by rfl) (fun w => by go_simp; try with_reducible rfl)) hHeld ?_
            simp only [List.setIfInBounds_toArray, List.set_cons_zero, List.set_cons_succ]
            refine take_at (i := 7) 25 rfl rfl (by kernel_rfl) (by kernel_rfl) (by kernel_rfl) (fun _ _ _ h => h) (sure_yes (by rfl) (fun w => by go_simp; try with_reducible rfl)) hHeld ?_
            simp only [List.setIfInBounds_toArray, List.set_cons_zero, List.set_cons_succ]
            refine take_at (i := 9) 27 rfl rfl (by kernel_rfl) (by kernel_rfl) (by kernel_rfl) (fun _ _ _ h => h) (sure_yes (by rfl) (fun w => by go_simp; try with_reducible rfl)) hHeld ?_
            simp only [List.setIfInBounds_toArray, List.set_cons_zero, List.set_cons_succ]
            refine take_at (i := 10) 28 rfl rfl (by kernel_rfl) (by kernel_rfl) (by kernel_rfl) (fun _ _ _ h => h) (sure_yes (by rfl) (fun w => by go_simp; try with_reducible rfl)) hHeld ?_
            simp only [List.setIfInBounds_toArray, List.set_cons_zero, List.set_cons_succ]
            refine take_at (i := 11) 29 rfl rfl (by kernel_rfl) (by kernel_rfl) (by kernel_rfl) (fun _ _ _ h => h) (sure_yes (by rfl) (fun w => by go_simp; try with_reducible rfl)) hHeld ?_
            simp only [List.setIfInBounds_toArray, List.set_cons_zero, List.set_cons_succ]
            refine take_at (i := 12) 30 rfl rfl (by kernel_rfl) (by kernel_rfl) (by kernel_rfl) (fun _ _ _ h => h) (sure_yes (by rfl) (fun w => by go_simp; try with_reducible rfl)) hHeld ?_
            simp only [List.setIfInBounds_toArray, List.set_cons_zero, List.set_cons_succ]
            refine take_at (i := 8) 26 rfl rfl (by kernel_rfl) (by kernel_rfl) (by kernel_rfl) (fun _ _ _ h => h) (shA_yields (by rfl) 33 (.tmp 25) rfl ⟨g, j * 36, none⟩ rfl Tryz.underlying33 shSize (fun w h j u hu => cell_under12 (CX.out j u hu) h)) hHeld ?_
            simp only [List.setIfInBounds_toArray, List.set_cons_zero, List.set_cons_succ]
            refine take_at (i := 13) 31 rfl rfl (by kernel_rfl) (by kernel_rfl) (by kernel_rfl) (fun _ _ _ h => h) (shA_yields (by rfl) 33 (.tmp 30) rfl ⟨g, p * 36, none⟩ rfl Tryz.underlying33 shSize (fun w h j u hu => cell_under12 (CY.out j u hu) h)) hHeld ?_
            simp only [List.setIfInBounds_toArray, List.set_cons_zero, List.set_cons_succ]
            refine ready_one 14 (by kernel_rfl) ?_
            refine opH_c2 32 rfl rfl (by rfl) F (.tmp 22) (.tmp 26) (.tmp 31) 33 33 rfl rfl (.agg (shC x)) (.agg (shC y)) rfl rfl CMF.out.2 _ (CMF.out.1 x y _) ?_
            rintro x wz ⟨rfl, hb⟩
            refine ⟨_, rfl, below_next hHeld hb, ?_⟩
            replace hHeld := below_next hHeld hb
            rw [HC.out]
            clear hb
            simp only [List.setIfInBounds_toArray, List.set_cons_zero, List.set_cons_succ]
            refine take_at (i := 15) 33 rfl rfl (by kernel_rfl) (by kernel_rfl) (by kernel_rfl) (fun _ _ _ h => h) (sure_yes (by rfl) (fun w => by go_simp; try with_reducible rfl)) hHeld ?_
            simp only [List.setIfInBounds_toArray, List.set_cons_zero, List.set_cons_succ]
            refine take_at (i := 16) 34 rfl rfl (by kernel_rfl) (by kernel_rfl) (by kernel_rfl) (fun _ _ _ h => h) (sure_yes (by rfl) (fun w => by go_simp; try with_reducible rfl)) hHeld ?_
            simp only [List.setIfInBounds_toArray, List.set_cons_zero, List.set_cons_succ]
            refine wpAnyH_done (by kernel_rfl) ?_ _
            have Z := Lib.hid hHeld
            clear hHeld
            have OWN := Lib.hid (own_below HO2.out Z.out)
            have BEL := Lib.hid (below_in HB2.out HB0.out Z.out)
            generalize wz = w3 at *
            go_wp2
            go_roundw
            case rel =>
              refine ⟨i + 1, i + 1, A0 ++ [y] ++ x :: R, by go_num, by omega, by omega, fun _ => rfl, fun h => by omega, ?_, ?_, BEL.out⟩
              · rw [seg_snoc HX.out (by omega)]
                refine stable_snoc HST.out ?_
                have h0 : SortedK Sh.path (A0 ++ [y] ++ R) := by rw [HAR.out]; exact HST.out.1
                have h := stable_right (key := Sh.path) (y := x) (A := A0 ++ [y]) (B := R) h0 (fun z hz => sorted_last (sorted_append.1 h0).1 HXY.out z hz) HR.out
                rw [HAR.out] at h; exact h
              · have h := OWN.out
                rw [HP.out, HU.out] at h
                simpa using h
            case measure => simp [intOf] <;> omega
        · have hA : A = [] := by
            cases A with
            | nil => rfl
            | cons z t => rw [List.length_cons] at hj; omega
          subst hA
          have hja : j = a := by simpa using hj
          subst hja
          have HO3 := Lib.hid ho
          have HRS := Lib.hid (show R = S by rw [← HAR.out, List.nil_append])
          clear ho hj haj
          generalize wr = w2 at *
          go_upto_region 4 with fail
          refine wp_region_held_drew (S := fun w' => Below w2.heap.size w2 w') (by kernel_rfl) (drawS (Below.refl _ _)) (fun hHeld => ?_)
          generalize w2.drew = wd at hHeld ⊢
          refine take_at (i := 0) 18 rfl rfl (by kernel_rfl) (by kernel_rfl) (by kernel_rfl) (fun _ _ _ h => h) (sure_yes (by rfl) (fun w => by go_simp; try with_reducible rfl)) hHeld ?_
          simp only [List.setIfInBounds_toArray, List.set_cons_zero, List.set_cons_succ]
          refine take_at (i := 1) 19 rfl rfl (by kernel_rfl) (by kernel_rfl) (by kernel_rfl) (fun _ _ _ h => h) (sure_yes (by rfl) (fun w => by go_simp; try with_reducible rfl)) hHeld ?_
          simp only [List.setIfInBounds_toArray, List.set_cons_zero, List.set_cons_succ]
          refine take_at (i := 2) 20 rfl rfl (by kernel_rfl) (by kernel_rfl) (by kernel_rfl) (fun _ _ _ h => h) (sure_yes (by rfl) (fun w => by go_simp; try with_reducible rfl)) hHeld ?_
          simp only [List.setIfInBounds_toArray, List.set_cons_zero, List.set_cons_succ]
          refine take_at (i := 3) 21 rfl rfl (by kernel_rfl) (by kernel_rfl) (by kernel_rfl) (fun _ _ _ h => h) (sure_yes (by rfl) (fun w => by go_simp; try with_reducible rfl)) hHeld ?_
          simp only [List.setIfInBounds_toArray, List.set_cons_zero, List.set_cons_succ]
          refine take_at (i := 4) 22 rfl rfl (by kernel_rfl) (by kernel_rfl) (by kernel_rfl) (fun _ _ _ h => h) (.inr ⟨by rfl, rfl⟩) hHeld ?_
          simp only [List.setIfInBounds_toArray, List.set_cons_zero, List.set_cons_succ]
          refine take_at (i := 5) 23 rfl rfl (by kernel_rfl) (by kernel_rfl) (by kernel_rfl) (fun _ _ _ h => h) (.inr ⟨by rfl, rfl⟩) hHeld ?_
          simp only [List.setIfInBounds_toArray, List.set_cons_zero, List.set_cons_succ]
          refine take_at (i := 6) 24 rfl rfl (by kernel_rfl) (by kernel_rfl) (by kernel_rfl) (fun _ _ _ h => h) (.inr ⟨by rfl, rfl⟩) hHeld ?_
          simp only [List.setIfInBounds_toArray, List.set_cons_zero, List.set_cons_succ]
          refine take_at (i := 7) 25 rfl rfl (by kernel_rfl) (by kernel_rfl) (by kernel_rfl) (fun _ _ _ h => h) (.inr ⟨by rfl, rfl⟩) hHeld ?_
          simp only [List.setIfInBounds_toArray, List.set_cons_zero, List.set_cons_succ]
          refine take_at (i := 8) 26 rfl rfl (by kernel_rfl) (by kernel_rfl) (by kernel_rfl) (fun _ _ _ h => h) (.inr ⟨by rfl, rfl⟩) hHeld ?_
          simp only [List.setIfInBounds_toArray, List.set_cons_zero, List.set_cons_succ]
          refine take_at (i := 9) 27 rfl rfl (by kernel_rfl) (by kernel_rfl) (by kernel_rfl) (fun _ _ _ h => h) (.inr ⟨by rfl, rfl⟩) hHeld ?_
          simp only [List.setIfInBounds_toArray, List.set_cons_zero, List.set_cons_succ]
          refine take_at (i := 10) 28 rfl rfl (by kernel_rfl) (by kernel_rfl) (by kernel_rfl) (fun _ _ _ h => h) (.inr ⟨by rfl, rfl⟩) hHeld ?_
          simp only [List.setIfInBounds_toArray, List.set_cons_zero, List.set_cons_succ]
          refine take_at (i := 11) 29 rfl rfl (by kernel_rfl) (by kernel_rfl) (by kernel_rfl) (fun _ _ _ h => h) (.inr ⟨by rfl, rfl⟩) hHeld ?_
          simp only [List.setIfInBounds_toArray, List.set_cons_zero, List.set_cons_succ]
          refine take_at (i := 12) 30 rfl rfl (by kernel_rfl) (by kernel_rfl) (by kernel_rfl) (fun _ _ _ h => h) (.inr ⟨by rfl, rfl⟩) hHeld ?_
          simp only [List.setIfInBounds_toArray, List.set_cons_zero, List.set_cons_succ]
          refine take_at (i := 13) 31 rfl rfl (by kernel_rfl) (by kernel_rfl) (by kernel_rfl) (fun _ _ _ h => h) (.inr ⟨by rfl, rfl⟩) hHeld ?_
          simp only [List.setIfInBounds_toArray, List.set_cons_zero, List.set_cons_succ]
          refine take_at (i := 14) 32 rfl rfl (by kernel_rfl) (by kernel_rfl) (by kernel_rfl) (fun _ _ _ h => h) (.inr ⟨by rfl, rfl⟩) hHeld ?_
          simp only [List.setIfInBounds_toArray, List.set_cons_zero, List.set_cons_succ]
          refine take_at (i := 15) 33 rfl rfl (by kernel_rfl) (by kernel_rfl) (by kernel_rfl) (fun _ _ _ h => h) (.inr ⟨by rfl, rfl⟩) hHeld ?_
          simp only [List.setIfInBounds_toArray, List.set_cons_zero, List.set_cons_succ]
          refine take_at (i := 16) 34 rfl rfl (by kernel_rfl) (by kernel_rfl) (by kernel_rfl) (fun _ _ _ h => h) (sure_yes (by rfl) (fun w => by go_simp; try with_reducible rfl)) hHeld ?_
          simp only [List.setIfInBounds_toArray, List.set_cons_zero, List.set_cons_succ]
          refine wpAnyH_done (by kernel_rfl) ?_ _
          have Z := Lib.hid hHeld
          clear hHeld
          have OWN := Lib.hid (own_below HO3.out Z.out)
          have BEL := Lib.hid (below_in HB2.out HB0.out Z.out)
          generalize wd = w3 at *
          go_wp2
          go_roundw
          case rel =>
            refine ⟨i + 1, i + 1, x :: S, by go_num, by omega, by omega, fun _ => rfl, fun h => by omega, ?_, ?_, BEL.out⟩
            · rw [seg_snoc HX.out (by omega)]
              refine stable_snoc HST.out ?_
              have h := stable_right (key := Sh.path) (y := x) (A := []) (B := S) (by rw [List.nil_append]; exact HST.out.1) (fun z hz => by cases hz) (fun r hr => HR.out r (by rw [HRS.out]; exact hr))
              exact h
            · have h := OWN.out
              rw [HRS.out] at h
              simpa using h
          case measure => simp [intOf] <;> omega
    · have hmb := hm2 (by omega)
      subst hmb
      have q1 : ¬ (i : Int) < (m : Int) := by omega
      have HE := Lib.hid (And.intro hst hown)
      clear hst hown
      go_wp2
      refine bodyPost_end (results_none rfl _ _ _) rfl ?_
      exact ⟨rfl, S, HE.out.1, (by have h := HE.out.2; simpa only [List.append_assoc] using h), HB1.out⟩
end Go.Proofs.YtppmbdpfledejaaGreatDoor
namespace Go.Proofs.YtppmbdpfledejaaGreatDoor
open Go.RowKit
set_option maxRecDepth 100000 in
theorem rsSize : (Tryz.prog.info? 36).map (·.size) = some 36 := by kernel_rfl
set_option maxRecDepth 100000 in
theorem rs_slice1 (s : Sh) : Tryz.prog.builtSlice 36 1 [(0, .agg (shC s))] = some (shC s) := by kernel_rfl
theorem infoRs : ∃ i, Tryz.prog.info? 36 = some i ∧ (i.zero.map (·.cells.size), i.size, i.bytes) = (some 36, 36, 72) := by
  have h : (Tryz.prog.info? 36).map (fun i => (i.zero.map (·.cells.size), i.size, i.bytes)) = some (some 36, 36, 72) := by kernel_rfl
  cases hi : Tryz.prog.info? 36 with
  | none => rw [hi] at h; cases h
  | some i => rw [hi] at h; exact ⟨i, rfl, Option.some.inj h⟩
/-- A slice of one, made, of the document's. -/
theorem build_rsM {ops : Array Oper} {rest : List Oper} {o : Oper} {a : Act} {w : World} {Q : Exit → Act → World → Prop} (hg : o.guard = none) (d : Nat) (hd : o.dst = some d) (x : Operand) (ho : o.op = .buildSlice 26 1 #[(0, x)])
    (N : Nat) (hN : w.heap.size = N) (s : Sh) (hx : a.eval x = .agg (shC s))
    (h : ∀ w', ShAt w' N 36 s → Below w.heap.size w w' → w'.heap.size = N + 1 → wpList Tryz.prog ops Q rest (a.put (some d) (.slice (some ⟨N, 0, none⟩) 1 1)) w') : wpList Tryz.prog ops Q (o :: rest) a w := by
  refine Go.Great.wpList_buildSliceTo hg 26 36 1 #[(0, x)] ho N hN (some d) hd Tryz.underlying26 (shC s) ?_ (h _ ?_ ((Below.refl _ _).alloc (Nat.le_refl _) _) ?_)
  · have hp : ((#[(0, x)] : Array (Nat × Operand)).map fun (i, x) => (i, a.eval x)).toList = [(0, .agg (shC s))] := by simp [hx]
    rw [hp]; exact rs_slice1 s
  · rw [← hN]; exact heap_last _ _
  · rw [size_of_alloc, hN]
set_option maxRecDepth 100000 in
set_option maxHeartbeats 16000000 in
theorem real_any (l : List Sh) (hl : l.length ≤ 50000) (v : Value) (w : World) (hv : HoldsS w v l) : Calls Tryz.prog 13 #[v] w fun x w' => ∃ y, x = .returned y ∧ HoldsS w' y l ∧ Below w.heap.size w w' := by
  obtain ⟨n, hn⟩ : ∃ n, n = l.length := ⟨_, rfl⟩
  have HN := Lib.hid hn
  have hn5 : n ≤ 50000 := by omega
  obtain ⟨ao, cap, hvs⟩ := holdsS_shape hv n hn
  subst hvs
  have HV := Lib.hid hv
  obtain ⟨ie, hie, hiz⟩ := infoRs
  have HIZ := Lib.hid hiz
  clear hl hv hn hiz
  go_enter Tryz.func13, Tryz.ntmps13
  go_wp2
  go_loopw [3, 4] (fun lv c wr => ∃ i : Nat, i ≤ n ∧ c = .int .i64 (i : Int) ∧ wr.ownsRow w.heap.size 36 36 lv (l.take i).length (shsC (l.take i)) ∧ Below w.heap.size w wr) (fun _ c _ => n - (intOf c).toNat)
  case atStart => exact ⟨0, Nat.zero_le _, rfl, World.ownsRow_nil _ _ _ _, Below.refl _ _⟩
  case round =>
    obtain ⟨i, hi, rfl, ho, hb⟩ := hrel
    have HO := Lib.hid ho
    have HB := Lib.hid hb
    have HLT := Lib.hid (show (l.take i).length ≤ 50000 by rw [List.length_take]; omega)
    clear ho hb
    by_cases hin : i < n
    · have q0 : (i : Int) < (n : Int) := by omega
      have q1 : (i : Int) < 50000 := by omega
      have hi1 : i + 1 ≤ n := hin
      have hi5 : i < 50000 := by omega
      obtain ⟨x, hx⟩ : ∃ x, l[i]? = some x := ⟨_, List.getElem?_eq_getElem (by have := HN.out; omega)⟩
      obtain ⟨ad, cap', e1, hcx⟩ := holdsS_at (holdsS_below HV.out HB.out) n i HN.out.symm x hx
      cases e1
      have HC := Lib.hid hcx
      have FS := Lib.hid (show l.take (i + 1) = l.take i ++ [x] by rw [List.take_add_one, hx]; rfl)
      clear hx hcx hi
      go_wp2_with (first
        | (refine load_shA_on (by rfl) 33 (.tmp 14) rfl (ad.add (i * 36)) rfl Tryz.underlying33 shSize HC.out ?_)
        | (refine build_rsM rfl 16 rfl (.tmp 15) rfl _ rfl x rfl ?_; rintro W6 hs6 hb6 hn6; have HS6 := Lib.hid hs6; have HB6 := Lib.hid (below_next HB.out hb6); have O6 := Lib.hid (own_below HO.out hb6); clear hs6 hb6 hn6)
        | (at_builtin; refine append_shs rfl (.tmp 11) (.tmp 16) 26 rfl w.heap.size 36 ie Tryz.underlying26 hie HIZ.out _ (l.take i) [x] rfl O6.out _ 1 1 rfl rfl (shAt_one HS6.out) (by have := HLT.out; simp only [List.length_singleton]; omega) HB6.out.size ?_; rintro v9 W9 ho hg; have HB9 := Lib.hid (below_grown HB6.out hg HB6.out.size (fun k hk => (O6.out.lt k hk).1)); have O9 := Lib.hid ho; clear ho hg))
      go_roundw
      case rel => exact ⟨i + 1, hi1, by go_num, by rw [FS.out]; exact O9.out, HB9.out⟩
      case measure => simp [intOf] <;> omega
    · obtain rfl : i = n := by omega
      have q0 : ¬ (i : Int) < (i : Int) := by omega
      have HO9 := Lib.hid (show HoldsS wr u3 l by have h := holdsS_own HO.out; rwa [List.take_of_length_le (Nat.le_of_eq HN.out.symm)] at h)
      go_wp2
      go_ret
      exact ⟨u3, rfl, HO9.out, HB.out⟩
end Go.Proofs.YtppmbdpfledejaaGreatDoor
namespace Go.Proofs.YtppmbdpfledejaaGreatDoor
open Go.RowKit Go.Maps
attribute [local go_sem] run_makeMap_plain
theorem rows_shape {w : World} {v : Value} {ls : List (List (BitVec 32))} (h : HasRows w v ls) (n : Nat) (hn : n = ls.length) : ∃ ao cap, v = .slice ao n cap := by
  obtain ⟨ao, cap, rfl, -⟩ := h
  exact ⟨ao, cap, by rw [hn]⟩
theorem rows_at {w : World} {v : Value} {ls : List (List (BitVec 32))} (h : HasRows w v ls) (n k : Nat) (hn : ls.length = n) (bs : List (BitVec 32)) (hb : ls[k]? = some bs) : ∃ ad cap u, v = .slice (some ad) n cap ∧ w.cell? (ad.add k) = some u ∧ HasBytes w u bs := by
  obtain ⟨ao, cap, rfl, hnil, hc⟩ := h
  cases ao with
  | none => obtain rfl := hnil rfl; simp at hb
  | some ad =>
    obtain ⟨u, h1, h2⟩ := hc ad rfl k bs hb
    exact ⟨ad, cap, u, by rw [hn], h1, h2⟩
theorem rows_below {w w' : World} {v : Value} {ls : List (List (BitVec 32))} (h : HasRows w v ls) (hb : Below w.heap.size w w') : HasRows w' v ls := by
  obtain ⟨ao, cap, rfl, hnil, hc⟩ := h
  refine ⟨ao, cap, rfl, hnil, fun ad had j bs hj => ?_⟩
  obtain ⟨u, h1, h2⟩ := hc ad had j bs hj
  exact ⟨u, (World.cell?_of_block (hb.block (ad.add j).block (World.block_lt_of_cell? w _ h1))).trans h1, has_below h2 hb⟩
theorem bytes_shapeR {w : World} {v : Value} {bs : List (BitVec 32)} (h : HasBytes w v bs) (n : Nat) (hn : n = bs.length) : ∃ ao cap, v = .slice ao n cap := by
  obtain ⟨ao, cap, rfl, -⟩ := h
  exact ⟨ao, cap, by rw [hn]⟩
theorem wpList_put_key {P : Program} {w : World} {ops : Array Oper} {rest : List Oper} {o : Oper} {a : Act} {Q : Exit → Act → World → Prop} (hg : o.guard = none) (mm x y : Operand) (t k e : TypeId) (ho : o.op = .mapUpdate t mm x y) (b n : Nat) (m : Value → Option Value) (h : KeyM P k w b n m) (K : Keyed P k) (ht : P.underlying t = some (.map k e)) (hn : n < maxLen)
    (hm : a.eval mm = .map (some b)) (p : Value) (hp : KeyV P k p) (hx : a.eval x = p) (v : Value) (hy : a.eval y = v) (hK : ∀ w', KeyM P k w' b (n + 1) (putKey m p v) → w.grownBy w' (some b) → wpList P ops Q rest (a.put o.dst undef) w') : wpList P ops Q (o :: rest) a w := by
  refine wpList_plain hg fun K' hK' => ?_
  obtain ⟨w', hr, h1, h2⟩ := keyM_put h K ht hn p hp v
  unfold Oper.wp
  simp [execOp, ho, hm, hx, hy, hr, Result.andThen]
  exact hK' _ _ (hK w' h1 h2)
/-- A block that isn't the map's. -/
theorem keyM_grown {P : Program} {k : TypeId} {w w' : World} {b n c : Nat} {m : Value → Option Value} (h : KeyM P k w b n m) (hg : w.grownBy w' (some c)) (hne : b ≠ c) : KeyM P k w' b n m :=
  keyM_block h (hg.block b (keyM_lt h) fun e => hne (Option.some.inj e))
/-- Block b is a map that says of the first i of some bytes, of each that is shown, the first that fits. -/
def FirstsAt (w : World) (b : Nat) (l : List Sh) (ls : List (List (BitVec 32))) (i : Nat) : Prop := ∃ (k : Nat) (m : Value → Option Value), KeyM Tryz.prog 103 w b k m ∧ Firsts l ls i m
/-- A set of sizes that has those of all that are shown. -/
def Asked (l : List Sh) (m : Value → Option Value) : Prop := (∀ s ∈ l, (m (.int .i64 s.size)).isSome = true) ∧ ∀ y u, m y = some u → u = .agg #[]
theorem asked_nil : Asked [] fun _ => none := ⟨(fun _ h => by cases h), (fun _ _ h => by cases h)⟩
theorem asked_next {l : List Sh} {i : Nat} {s : Sh} {m : Value → Option Value} (h : Asked (l.take i) m) (hs : l[i]? = some s) : Asked (l.take (i + 1)) (putKey m (.int .i64 s.size) (.agg #[])) := by
  refine ⟨fun z hz => ?_, fun y u hy => ?_⟩
  · rw [List.take_add_one, hs, List.mem_append] at hz
    by_cases hzz : (Value.int .i64 z.size) = .int .i64 s.size
    · rw [hzz, putKey_same]; rfl
    · rw [putKey_other hzz]
      rcases hz with hz | hz
      · exact h.1 z hz
      · simp only [Option.toList_some, List.mem_singleton] at hz
        exact absurd (by rw [hz]) hzz
  · by_cases hyy : y = .int .i64 s.size
    · rw [hyy, putKey_same] at hy; exact (Option.some.inj hy).symm
    · rw [putKey_other hyy] at hy; exact h.2 y u hy
set_option maxRecDepth 100000 in
theorem unit_built : Tryz.prog.built 129 [] = some #[] := by kernel_rfl
theorem unitSize : (Tryz.prog.info? 129).map (·.size) = some 0 := by kernel_rfl
theorem contentSize : (Tryz.prog.info? 103).map (·.size) = some 33 := by kernel_rfl
set_option maxRecDepth 100000 in
theorem key_built (f : Nat → BitVec 32) (n : Int) : Tryz.prog.built 103 [(0, rowV .u8 32 f), (1, .int .i64 n)] = some (keyA f n) := by kernel_rfl
theorem unit_zero (w : World) : (zeroValue 129).run Tryz.prog w = .ok (.agg #[]) w := by kernel_rfl
theorem int_zeroW (w : World) : (zeroValue 3).run Tryz.prog w = .ok (.int .i64 0) w := by kernel_rfl
set_option linter.unusedSimpArgs false in
set_option maxRecDepth 100000 in
set_option maxHeartbeats 16000000 in
theorem firstOf_any (l : List Sh) (hl : l.length ≤ 20000) (hs : ∀ s ∈ l, ShOk s) (ls : List (List (BitVec 32))) (hls : ∀ bs ∈ ls, bs.length ≤ 1099511627776) (hn : ls.length ≤ 20000) (v x : Value) (w : World) (tab : Tab w) (hv : HoldsS w v l) (hx : HasRows w x ls) :
    Calls Tryz.prog 46 #[v, x] w fun e w' => ∃ b : Nat, e = .returned (.map (some b)) ∧ w.heap.size ≤ b ∧ FirstsAt w' b l ls ls.length ∧ Below w.heap.size w w' := by
  obtain ⟨n, hnn⟩ : ∃ n, n = l.length := ⟨_, rfl⟩
  have HN := Lib.hid hnn
  have HL := Lib.hid (show n ≤ 20000 by omega)
  obtain ⟨ao, cap, hvs⟩ := holdsS_shape hv n hnn
  subst hvs
  obtain ⟨q, hqq⟩ : ∃ q, q = ls.length := ⟨_, rfl⟩
  have HQ := Lib.hid hqq
  have HQL := Lib.hid (show q ≤ 20000 by omega)
  obtain ⟨xo, xc, hxs⟩ := rows_shape hx q hqq
  subst hxs
  have HV := Lib.hid hv
  have HX := Lib.hid hx
  have HS := Lib.hid hs
  have HLS := Lib.hid hls
  have HT := Lib.hid tab
  have BM := Lib.hid ((Below.refl w.heap.size w).alloc (Nat.le_refl _) (.map #[] 0))
  have K0 := Lib.hid (keyM_made Tryz.prog 3 w)
  rw [← hqq]
  clear hl hv hx hs hls tab hn hnn hqq
  go_enter Tryz.func46, Tryz.ntmps46
  go_upto_region 2 with fail
  generalize w.alloc (.map #[] 0) = WM at *
  obtain ⟨b, hb0⟩ : ∃ b, b = w.heap.size := ⟨_, rfl⟩
  rw [← hb0] at K0 ⊢
  have HEQ := Lib.hid hb0
  clear hb0
  go_wp2
  go_loopw [19] (fun c wr => ∃ (i k : Nat) (m : Value → Option Value), i ≤ n ∧ k ≤ i ∧ c = .int .i64 (i : Int) ∧ KeyM Tryz.prog 3 wr b k m ∧ Asked (l.take i) m ∧ Below w.heap.size w wr) (fun c _ => n - (intOf c).toNat)
  case atStart => exact ⟨0, 0, fun _ => none, Nat.zero_le _, Nat.le_refl _, rfl, K0.out, asked_nil, BM.out⟩
  case round =>
    obtain ⟨i, k, m, hi, hk, rfl, hkm, has, hb⟩ := hrel
    have HKM := Lib.hid hkm
    have HAS := Lib.hid has
    have HB := Lib.hid hb
    clear hkm has hb
    by_cases hin : i < n
    · have q0 : (i : Int) < (n : Int) := by omega
      have q1 : (i : Int) < 50000 := by have := HL.out; omega
      have hi1 : i + 1 ≤ n := hin
      have hi5 : i < 50000 := by have := HL.out; omega
      obtain ⟨s, hsx⟩ : ∃ x, l[i]? = some x := ⟨_, List.getElem?_eq_getElem (by have := HN.out; omega)⟩
      obtain ⟨ad, cap', e1, hcx⟩ := holdsS_at (holdsS_below HV.out HB.out) n i HN.out.symm s hsx
      cases e1
      have HC := Lib.hid hcx
      have HSO := Lib.hid (HS.out s (List.mem_of_getElem? hsx))
      have HSX := Lib.hid hsx
      clear hsx hcx hi
      go_upto_region 4 with fail
      go_upto_region 5 with (first
        | (refine load_shA_on (by rfl) 33 (.tmp 21) rfl (ad.add (i * 36)) rfl Tryz.underlying33 shSize HC.out ?_)
        | (refine store_new rfl 33 (.tmp 7) (.tmp 22) rfl rfl wr _ (shC s) 33 rfl rfl rfl (by rw [shSize, shC_size]) (by rw [shC_size]; rfl) (shC_one _) ?_; rintro W2 hg hb hlt; have S2 := Lib.hid (show ShAt W2 wr.heap.size 33 s from hg); have C2 := Lib.hid hb; have HB2 := Lib.hid (below_next HB.out hb); clear hg hb hlt))
      have KM2 := Lib.hid (keyM_block HKM.out (C2.out.block b (keyM_lt HKM.out)))
      obtain ⟨-, -, -, c4⟩ := shAt_cells S2.out
      go_wp2_with (first
        | (refine build_as rfl 129 #[] rfl _ _ unit_built (by simp) ?_)
        | (refine wpList_put_key rfl (.tmp 23) (.tmp 25) (.tmp 26) 128 3 129 rfl b k m KM2.out intKeyed Tryz.underlying128 (by have := HL.out; unfold maxLen; omega) rfl (.int .i64 s.size) (int_key _ HSO.out.2) rfl (.agg #[]) rfl ?_; rintro W9 hr hg; have KM9 := Lib.hid hr; have HB9 := Lib.hid (below_grown HB2.out hg HB2.out.size (fun k hk => by cases hk; exact Nat.le_of_eq HEQ.out.symm)); clear hr hg))
      go_roundw
      case rel => exact ⟨i + 1, k + 1, _, hi1, by omega, by go_num, KM9.out, asked_next HAS.out HSX.out, HB9.out⟩
      case measure => simp [intOf] <;> omega
    · obtain rfl : i = n := by omega
      have q0 : ¬ (i : Int) < (i : Int) := by omega
      have HAL := Lib.hid (show Asked l m by have h := HAS.out; rwa [List.take_of_length_le (Nat.le_of_eq HN.out.symm)] at h)
      have KM7 := Lib.hid (keyM_block HKM.out (((Below.refl wr.heap.size wr).alloc (Nat.le_refl _) (.map #[] 0)).block b (keyM_lt HKM.out)))
      have K7 := Lib.hid (keyM_made Tryz.prog 103 wr)
      have B7 := Lib.hid (below_next HB.out ((Below.refl wr.heap.size wr).alloc (Nat.le_refl _) (.map #[] 0)))
      have HBL := Lib.hid (keyM_lt HKM.out)
      clear hi hk
      go_upto_region 8 with fail
      obtain ⟨B, hB⟩ : ∃ B, B = wr.heap.size := ⟨_, rfl⟩
      have HBB := Lib.hid (show w.heap.size ≤ B by rw [hB]; exact HB.out.size)
      have HNE := Lib.hid (show b < B by rw [hB]; exact HBL.out)
      generalize wr.alloc (.map #[] 0) = W7 at *
      rw [← hB] at K7 ⊢
      clear hB
      have D7 := Lib.hid K7.out
      go_wp2
      go_loopw [31] (fun c wz => ∃ (j k' : Nat) (mm : Value → Option Value), j ≤ q ∧ k' ≤ j ∧ c = .int .i64 (j : Int) ∧ KeyM Tryz.prog 103 wz B k' mm ∧ KeyM Tryz.prog 3 wz b k m ∧ Firsts l ls j mm ∧ Below w.heap.size w wz) (fun c _ => q - (intOf c).toNat)
      case atStart => exact ⟨0, 0, fun _ => none, Nat.zero_le _, Nat.le_refl _, rfl, K7.out, KM7.out, firsts_nil _ _, B7.out⟩
      case round =>
        obtain ⟨j, k', mm, hj, hk', rfl, hkz, hki, hfs, hbz⟩ := hrel
        have HKZ := Lib.hid hkz
        have HKI := Lib.hid hki
        have HFS := Lib.hid hfs
        have HZ := Lib.hid hbz
        clear hkz hki hfs hbz
        by_cases hjq : j < q
        · have q0 : (j : Int) < (q : Int) := by omega
          have q1 : (j : Int) < 50000 := by have := HQL.out; omega
          have hj1 : j + 1 ≤ q := hjq
          have hj5 : j < 50000 := by have := HQL.out; omega
          obtain ⟨bs, hbx⟩ : ∃ x, ls[j]? = some x := ⟨_, List.getElem?_eq_getElem (by have := HQ.out; omega)⟩
          obtain ⟨ad, cap', u, e1, hcx, hub⟩ := rows_at (rows_below HX.out HZ.out) q j HQ.out.symm bs hbx
          cases e1
          obtain ⟨un, hun⟩ : ∃ n, n = bs.length := ⟨_, rfl⟩
          obtain ⟨uo, uc, hus⟩ := bytes_shapeR hub un hun
          subst hus
          have HUB := Lib.hid hub
          have HBX := Lib.hid hbx
          have HUL := Lib.hid (show bs.length ≤ 1099511627776 from HLS.out bs (List.mem_of_getElem? hbx))
          have HUNN := Lib.hid hun
          clear hbx hub hun hj
          have HIK := Lib.hid (int_key (un : Int) (len_wf (by rw [HUNN.out]; exact HUL.out)))
          cases hmu : m (.int .i64 (un : Int)) with
          | none =>
            have L9 := Lib.hid (show (Instr.lookup 128 (.map (some b)) (.int .i64 (un : Int)) true).run Tryz.prog wr = .ok (.tuple #[.agg #[], .bool false]) wr from by have h := keyM_look_ok HKI.out intKeyed Tryz.underlying128 (unit_zero _) _ HIK.out; rw [hmu] at h; exact h)
            have FS := Lib.hid (firsts_skip HBX.out HFS.out fun s hs e => by
              have := HAL.out.1 s hs
              rw [e, ← HUNN.out, hmu] at this; cases this)
            clear hmu
            go_upto_region 12 with (first
              | (at_lookup; refine wpList_lookup_raw rfl (.tmp 37) (.tmp 39) 128 true rfl b rfl _ _ rfl L9.out ?_)
              | (refine store_new rfl 129 (.tmp 11) (.tmp 41) rfl rfl wr _ #[] 129 rfl rfl rfl unitSize rfl (by simp) ?_; rintro W2 hg hb hlt; have C2 := Lib.hid hb; have HB2 := Lib.hid (below_next HZ.out hb); clear hg hb hlt))
            go_wp2
            go_roundw
            case rel => exact ⟨j + 1, k', mm, hj1, by omega, by go_num, keyM_block HKZ.out (C2.out.block B (keyM_lt HKZ.out)), keyM_block HKI.out (C2.out.block b (keyM_lt HKI.out)), FS.out, HB2.out⟩
            case measure => simp [intOf] <;> omega
          | some z =>
            have L9 := Lib.hid (show (Instr.lookup 128 (.map (some b)) (.int .i64 (un : Int)) true).run Tryz.prog wr = .ok (.tuple #[.agg #[], .bool true]) wr from by have h := keyM_look_ok HKI.out intKeyed Tryz.underlying128 (unit_zero _) _ HIK.out; rw [hmu, HAL.out.2 _ _ hmu] at h; exact h)
            clear hmu
            go_upto_region 12 with (first
              | (at_lookup; refine wpList_lookup_raw rfl (.tmp 37) (.tmp 39) 128 true rfl b rfl _ _ rfl L9.out ?_)
              | (refine store_new rfl 129 (.tmp 11) (.tmp 41) rfl rfl wr _ #[] 129 rfl rfl rfl unitSize rfl (by simp) ?_; rintro W2 hg hb hlt; have C2 := Lib.hid hb; have HB2 := Lib.hid (below_next HZ.out hb); clear hg hb hlt))
            have SU := Lib.hid (sum_any W2 (.slice uo un uc) bs (tab_keep HT.out HB2.out (Nat.le_refl _)) (has_below HUB.out C2.out) HUL.out)
            have HBK := Lib.hid (show KeyV Tryz.prog 103 (keyC (sumF bs) (un : Int)) by have h := bs_key bs HUL.out; rwa [← HUNN.out] at h)
            obtain ⟨f, hf⟩ : ∃ f, f = sumF bs := ⟨_, rfl⟩
            have HFF := Lib.hid hf
            rw [← hf] at SU HBK
            clear hf
            go_upto_region 14 with (first
              | (go_at_call 48; refine SU.out.mono ?_; rintro x W3 ⟨rfl, hb⟩; have C3 := Lib.hid (below_next C2.out hb); clear hb)
              | (refine build_as rfl 103 #[(0, .tmp 46), (1, .tmp 48)] rfl _ _ (key_built f (un : Int)) (by simp [Act.eval]) ?_)
              | (refine store_new rfl 103 (.tmp 13) (.tmp 49) rfl rfl W3 _ (keyA f (un : Int)) 103 rfl rfl rfl (by rw [contentSize, keyA_size]) (by rw [keyA_size]; rfl) (keyA_one _ _) ?_; rintro W4 hg hb hlt; have S4 := Lib.hid hg; have C4 := Lib.hid (below_next C3.out hb); have HB4 := Lib.hid (below_next HZ.out C4.out); clear hg hb hlt))
            have KZ4 := Lib.hid (keyM_block HKZ.out (C4.out.block B (keyM_lt HKZ.out)))
            have KI4 := Lib.hid (keyM_block HKI.out (C4.out.block b (keyM_lt HKI.out)))
            obtain ⟨g, hg0⟩ : ∃ g, g = W3.heap.size := ⟨_, rfl⟩
            rw [← hg0] at S4 ⊢
            clear hg0
            cases hmz : mm (keyC f (un : Int)) with
            | some z =>
              have L10 := Lib.hid (show (Instr.lookup 99 (.map (some B)) (.agg (keyA f (un : Int))) true).run Tryz.prog W4 = .ok (.tuple #[z, .bool true]) W4 from by have h := keyM_look_ok KZ4.out contentKeyed Tryz.underlying99 (int_zeroW _) _ HBK.out; rw [hmz] at h; exact h)
              have FS := Lib.hid (show Firsts l ls (j + 1) mm from by rw [HFF.out, HUNN.out] at hmz; exact firsts_found HBX.out HFS.out hmz)
              clear hmz
              go_upto_region 15 with (first
                | (refine load_row_on (by rfl) 103 (.tmp 13) rfl g rfl 103 (keyA f (un : Int)) (0, 0) _ S4.out Tryz.underlying103 rfl (by rw [contentSize, keyA_size]) ?_)
                | (at_lookup; refine wpList_lookup_raw rfl (.tmp 51) (.tmp 52) 99 true rfl B rfl _ _ rfl L10.out ?_))
              go_wp2
              go_roundw
              case rel => exact ⟨j + 1, k', mm, hj1, by omega, by go_num, KZ4.out, KI4.out, FS.out, HB4.out⟩
              case measure => simp [intOf] <;> omega
            | none =>
              have L10 := Lib.hid (show (Instr.lookup 99 (.map (some B)) (.agg (keyA f (un : Int))) true).run Tryz.prog W4 = .ok (.tuple #[.int .i64 0, .bool false]) W4 from by have h := keyM_look_ok KZ4.out contentKeyed Tryz.underlying99 (int_zeroW _) _ HBK.out; rw [hmz] at h; exact h)
              have FS := Lib.hid (show Firsts l ls (j + 1) (putKey mm (keyC f (un : Int)) (.int .i64 (j : Int))) from by rw [HFF.out, HUNN.out] at hmz ⊢; exact firsts_new HBX.out HFS.out hmz)
              clear hmz
              go_upto_region 15 with (first
                | (refine load_row_on (by rfl) 103 (.tmp 13) rfl g rfl 103 (keyA f (un : Int)) (0, 0) _ S4.out Tryz.underlying103 rfl (by rw [contentSize, keyA_size]) ?_)
                | (at_lookup; refine wpList_lookup_raw rfl (.tmp 51) (.tmp 52) 99 true rfl B rfl _ _ rfl L10.out ?_))
              go_wp2_with (first
                | (refine load_row_on (by rfl) 103 (.tmp 13) rfl g rfl 103 (keyA f (un : Int)) (0, 0) _ S4.out Tryz.underlying103 rfl (by rw [contentSize, keyA_size]) ?_)
                | (refine wpList_put_key rfl (.tmp 58) (.tmp 59) (.tmp 60) 99 103 3 rfl B k' mm KZ4.out contentKeyed Tryz.underlying99 (by have := HQL.out; unfold maxLen; omega) rfl (keyC f (un : Int)) HBK.out rfl (.int .i64 (j : Int)) rfl ?_; rintro W9 hr hg; have KZ9 := Lib.hid hr; have KI9 := Lib.hid (keyM_grown KI4.out hg (Nat.ne_of_lt HNE.out)); have HB9 := Lib.hid (below_grown HB4.out hg HB4.out.size (fun k hk => by cases hk; exact HBB.out)); clear hr hg))
              go_roundw
              case rel => exact ⟨j + 1, k' + 1, _, hj1, by omega, by go_num, KZ9.out, KI9.out, FS.out, HB9.out⟩
              case measure => simp [intOf] <;> omega
        · obtain rfl : j = q := by omega
          have q0 : ¬ (j : Int) < (j : Int) := by omega
          clear hj hk'
          go_wp2
          go_ret
          exact ⟨B, rfl, HBB.out, ⟨k', mm, HKZ.out, HFS.out⟩, HZ.out⟩
end Go.Proofs.YtppmbdpfledejaaGreatDoor
namespace Go.Proofs.YtppmbdpfledejaaGreatDoor
open Go.RowKit
/-- The last k figures to the base 8 of a number. -/
def octs : Nat → Nat → List UInt8
  | 0, _ => []
  | k + 1, n => octs k (n / 8) ++ [UInt8.ofNat (48 + n % 8)]
theorem octs_succ (k n : Nat) : octs (k + 1) n = octs k (n / 8) ++ [UInt8.ofNat (48 + n % 8)] := rfl
theorem oct_toNat (m : Nat) (h : m < 8) : (UInt8.ofNat (48 + m)).toNat = 48 + m := by rw [UInt8.toNat_ofNat', Nat.mod_eq_of_lt (by omega)]
theorem octs_length (k n : Nat) : (octs k n).length = k := by
  induction k generalizing n with
  | zero => rfl
  | succ k ih => rw [octs_succ, List.length_append, ih]; rfl
/-- The number of figures, by their last three bits. -/
def val8 (l : List UInt8) : Nat := l.foldl (fun n c => 8 * n + c.toNat % 8) 0
theorem val8_snoc (l : List UInt8) (c : UInt8) : val8 (l ++ [c]) = 8 * val8 l + c.toNat % 8 := by simp [val8, List.foldl_append]
theorem val8_octs (k n : Nat) (h : n < 8 ^ k) : val8 (octs k n) = n := by
  induction k generalizing n with
  | zero => simp at h; subst h; rfl
  | succ k ih =>
    rw [octs_succ, val8_snoc, oct_toNat _ (by omega), ih (n / 8) (by rw [Nat.pow_succ] at h; omega)]
    omega
/-- A number's field. -/
def putL (n w : Nat) : List UInt8 := octs (w - 1) n ++ [0]
theorem putL_length (n w : Nat) (h : 1 ≤ w) : (putL n w).length = w := by rw [putL, List.length_append, octs_length]; simp; omega
/-- What Put answers: a field and an error's number. -/
def putErr (n w : Int) : Int := if w < 2 ∨ 12 < w then 1 else if n < 0 then 8 else if n.toNat / 8 ^ (w.toNat - 1) ≠ 0 then 8 else 0
def putTO (n w : Int) : List UInt8 := if putErr n w = 0 then putL n.toNat w.toNat else []
theorem putErr_ok (n w : Int) : putErr n w = 0 ↔ 2 ≤ w ∧ w ≤ 12 ∧ 0 ≤ n ∧ n.toNat < 8 ^ (w.toNat - 1) := by
  unfold putErr
  by_cases h : w < 2 ∨ 12 < w
  · rw [if_pos h]; constructor
    · intro e; cases e
    · intro e; omega
  · rw [if_neg h]
    by_cases h1 : n < 0
    · rw [if_pos h1]; constructor
      · intro e; cases e
      · intro e; omega
    · rw [if_neg h1]
      have hp : 0 < 8 ^ (w.toNat - 1) := Nat.pow_pos (by decide)
      by_cases h2 : n.toNat / 8 ^ (w.toNat - 1) = 0
      · rw [if_neg (by simpa using h2)]
        have := (Nat.div_eq_zero_iff_lt hp).1 h2
        exact ⟨fun _ => ⟨by omega, by omega, by omega, this⟩, fun _ => rfl⟩
      · rw [if_pos h2]; constructor
        · intro e; cases e
        · rintro ⟨_, _, _, e⟩; exact absurd ((Nat.div_eq_zero_iff_lt hp).2 e) h2
/-- Is it a number's field? -/
def isOct (b : List UInt8) : Bool := decide (2 ≤ b.length) && (decide (b.length ≤ 12) && (putL (val8 b.dropLast) b.length == b))
/-- What Get answers. -/
def getN (b : List UInt8) : Int := if isOct b then val8 b.dropLast else 0
def getErr (b : List UInt8) : Int := if isOct b then 0 else 2
theorem isOct_putL (n w : Nat) (h2 : 2 ≤ w) (h12 : w ≤ 12) (h : n < 8 ^ (w - 1)) : isOct (putL n w) = true ∧ val8 (putL n w).dropLast = n := by
  have hl := putL_length n w (by omega)
  have hv : val8 (putL n w).dropLast = n := by rw [putL, List.dropLast_concat, val8_octs _ _ h]
  refine ⟨?_, hv⟩
  simp [isOct, hl, hv, h2, h12]
/-- What was put is got. -/
theorem get_put (n w : Int) (h : putErr n w = 0) : getN (putTO n w) = n ∧ getErr (putTO n w) = 0 ∧ (putTO n w).length = w.toNat := by
  obtain ⟨h1, h2, h3, h4⟩ := (putErr_ok n w).1 h
  obtain ⟨e1, e2⟩ := isOct_putL n.toNat w.toNat (by omega) (by omega) h4
  rw [putTO, if_pos h, getN, getErr, if_pos e1, if_pos e1, e2, putL_length _ _ (by omega)]
  exact ⟨by omega, rfl, rfl⟩
/-- What Text answers. -/
def fieldErr (s : List UInt8) (w : Int) : Int := if w < 1 ∨ 255 < w then 1 else if s.contains 0 then 2 else if w < s.length then 8 else 0
def fieldT (s : List UInt8) (w : Int) : List UInt8 := if fieldErr s w = 0 then s ++ List.replicate (w.toNat - s.length) 0 else []
theorem fieldErr_ok (s : List UInt8) (w : Int) : fieldErr s w = 0 ↔ 1 ≤ w ∧ w ≤ 255 ∧ s.contains 0 = false ∧ (s.length : Int) ≤ w := by
  unfold fieldErr
  by_cases h : w < 1 ∨ 255 < w
  · rw [if_pos h]; constructor
    · intro e; cases e
    · intro e; omega
  · rw [if_neg h]
    cases hc : s.contains 0 with
    | true => rw [if_pos rfl]; constructor
              · intro e; cases e
              · rintro ⟨_, _, e, _⟩; cases e
    | false =>
      rw [if_neg (by decide)]
      by_cases h1 : w < s.length
      · rw [if_pos h1]; constructor
        · intro e; cases e
        · intro e; omega
      · rw [if_neg h1]; exact ⟨fun _ => ⟨by omega, by omega, rfl, by omega⟩, fun _ => rfl⟩
theorem fieldT_length (s : List UInt8) (w : Int) (h : fieldErr s w = 0) : (fieldT s w).length = w.toNat := by
  obtain ⟨h1, h2, h3, h4⟩ := (fieldErr_ok s w).1 h
  rw [fieldT, if_pos h, List.length_append, List.length_replicate]; omega
/-- What Name answers. -/
def headL (b : List UInt8) : List UInt8 := b.takeWhile (· != 0)
def isName (b : List UInt8) : Bool := (b.dropWhile (· != 0)).all (· == 0)
def nameT (b : List UInt8) : List UInt8 := if isName b then headL b else []
/-- The sum of a header's bytes, up to the k-th one. -/
def sumAt (b : List UInt8) (k : Nat) : Nat := if 148 ≤ k ∧ k ≤ 155 then 32 else (b.getD k 0).toNat
def sumTo (b : List UInt8) : Nat → Nat
  | 0 => 0
  | k + 1 => sumTo b k + sumAt b k
theorem sumTo_succ (b : List UInt8) (k : Nat) : sumTo b (k + 1) = sumTo b k + sumAt b k := rfl
def sumL (b : List UInt8) : Nat := sumTo b b.length
theorem sumAt_lt (b : List UInt8) (k : Nat) : sumAt b k < 256 := by
  unfold sumAt; split
  · omega
  · exact UInt8.toNat_lt _
theorem sumTo_le (b : List UInt8) (k : Nat) : sumTo b k ≤ 255 * k := by
  induction k with
  | zero => exact Nat.le_refl 0
  | succ k ih => have := sumAt_lt b k; rw [sumTo_succ]; omega
attribute [irreducible] octs val8 sumTo
end Go.Proofs.YtppmbdpfledejaaGreatDoor
namespace Go.Proofs.YtppmbdpfledejaaGreatDoor
open Go.RowKit
/-- What stands ahead of the sum, and behind it. -/
def hdrA (name : List UInt8) (size : Int) : List UInt8 := fieldT name 100 ++ (putTO 420 8 ++ (putTO 0 8 ++ (putTO 0 8 ++ (putTO size 12 ++ putTO 0 12))))
def hdrC (pre : List UInt8) : List UInt8 := fieldT [48] 1 ++ (fieldT [] 100 ++ (fieldT [117, 115, 116, 97, 114] 6 ++ (fieldT [48, 48] 2 ++ (fieldT [] 32 ++ (fieldT [] 32 ++ (putTO 0 8 ++ (putTO 0 8 ++ (fieldT pre 155 ++ fieldT [] 12))))))))
def blank8 : List UInt8 := fieldT [32, 32, 32, 32, 32, 32, 32, 32] 8
/-- A header whose sum is not known yet. -/
def hdr0 (pre name : List UInt8) (size : Int) : List UInt8 := hdrA name size ++ (blank8 ++ hdrC pre)
def hdrS (pre name : List UInt8) (size : Int) : Nat := sumL (hdr0 pre name size)
def sumB (n : Nat) : List UInt8 := putTO n 7 ++ [32]
def hdrL (pre name : List UInt8) (size : Int) : List UInt8 := hdrA name size ++ (sumB (hdrS pre name size) ++ hdrC pre)
/-- Fields that fit. -/
def Fit (pre name : List UInt8) (size : Int) : Prop := fieldErr name 100 = 0 ∧ fieldErr pre 155 = 0 ∧ putErr size 12 = 0
theorem hdrA_len {pre name : List UInt8} {size : Int} (h : Fit pre name size) : (hdrA name size).length = 148 := by
  have a := fieldT_length name 100 h.1
  have b := (get_put size 12 h.2.2).2.2
  have c : (putTO 420 8).length = 8 := by decide +kernel
  have d : (putTO 0 8).length = 8 := by decide +kernel
  have e : (putTO 0 12).length = 12 := by decide +kernel
  simp only [hdrA, List.length_append, a, b, c, d, e]; rfl
theorem hdrC_len {pre name : List UInt8} {size : Int} (h : Fit pre name size) : (hdrC pre).length = 356 := by
  have a := fieldT_length pre 155 h.2.1
  have b : (fieldT [48] 1).length = 1 := by decide +kernel
  have c : (fieldT [] 100).length = 100 := by decide +kernel
  have d : (fieldT [117, 115, 116, 97, 114] 6).length = 6 := by decide +kernel
  have e : (fieldT [48, 48] 2).length = 2 := by decide +kernel
  have f : (fieldT [] 32).length = 32 := by decide +kernel
  have g : (putTO 0 8).length = 8 := by decide +kernel
  have i : (fieldT [] 12).length = 12 := by decide +kernel
  simp only [hdrC, List.length_append, a, b, c, d, e, f, g, i]; rfl
theorem blank8_eq : blank8 = [32, 32, 32, 32, 32, 32, 32, 32] := by decide +kernel
theorem sumL_le (b : List UInt8) : sumL b ≤ 255 * b.length := sumTo_le b b.length
theorem hdrS_lt {pre name : List UInt8} {size : Int} (h : Fit pre name size) : hdrS pre name size ≤ 130560 := by
  have h1 := sumL_le (hdr0 pre name size)
  rw [hdr0, List.length_append, List.length_append, hdrA_len h, hdrC_len h, blank8_eq] at h1
  exact h1
theorem put7 {n : Nat} (h : n ≤ 130560) : putErr n 7 = 0 := by
  have h8 : (8 : Nat) ^ 6 = 262144 := by decide
  rw [putErr_ok, show (7 : Int).toNat - 1 = 6 from rfl, h8]; omega
theorem sumB_len {n : Nat} (h : n ≤ 130560) : (sumB n).length = 8 := by
  rw [sumB, List.length_append, (get_put n 7 (put7 h)).2.2]; rfl
theorem hdrL_len {pre name : List UInt8} {size : Int} (h : Fit pre name size) : (hdrL pre name size).length = 512 := by
  rw [hdrL, List.length_append, List.length_append, hdrA_len h, sumB_len (hdrS_lt h), hdrC_len h]
/-- A path has no byte 0. -/
theorem let_nonzero {c : UInt8} (h : isLet c = true) : c ≠ 0 := fun e => by subst e; revert h; decide
theorem parts_nonzero : ∀ (n : Nat) (s : List UInt8), s.length ≤ n → isParts s = true → ∀ c ∈ s, c ≠ 0 := by
  intro n
  induction n with
  | zero => intro s hs _ c hc; obtain rfl : s = [] := List.eq_nil_of_length_eq_zero (by omega); cases hc
  | succ n ih =>
    intro s hs h c hc
    rcases last_piece s with hno | ⟨a, l, rfl, hl⟩
    · rw [isParts_one hno] at h
      exact let_nonzero (isPart_let h c hc)
    · rw [isParts_append, Bool.and_eq_true] at h
      rcases List.mem_append.1 hc with h1 | h1
      · exact ih a (by simp at hs; omega) h.1 c h1
      · rcases List.mem_cons.1 h1 with h2 | h2
        · rw [h2]; decide
        · have := h.2
          rw [isParts_one hl] at this
          exact let_nonzero (isPart_let this c h2)
/-- What Put answers. -/
def putHErr (p : List UInt8) (n : Int) : Int := if splitErr p ≠ 0 then splitErr p else if n < 0 ∨ 4194304 < n then 8 else 0
def putH (p : List UInt8) (n : Int) : List UInt8 := if putHErr p n = 0 then hdrL (splitA p) (splitB p) n else []
theorem splitErr_cases (p : List UInt8) : (splitErr p = 0 ∧ splitR p = some (splitA p, splitB p)) ∨ (splitErr p = 9 ∧ splitR p = none) := by
  unfold splitErr splitA splitB
  cases splitR p with
  | none => exact .inr ⟨rfl, rfl⟩
  | some x => exact .inl ⟨rfl, rfl⟩
theorem putHErr_ok (p : List UInt8) (n : Int) : putHErr p n = 0 ↔ splitR p = some (splitA p, splitB p) ∧ 0 ≤ n ∧ n ≤ 4194304 := by
  unfold putHErr
  rcases splitErr_cases p with ⟨h, hr⟩ | ⟨h, hr⟩
  · rw [if_neg (by omega)]
    by_cases hn : n < 0 ∨ 4194304 < n
    · rw [if_pos hn]; constructor
      · intro e; cases e
      · intro e; omega
    · rw [if_neg hn]; exact ⟨fun _ => ⟨hr, by omega, by omega⟩, fun _ => rfl⟩
  · rw [if_pos (by omega), h, hr]; constructor
    · intro e; cases e
    · intro e; cases e.1
theorem no_zero {s : List UInt8} (h : ∀ c ∈ s, c ≠ 0) : s.contains 0 = false := by
  rw [Bool.eq_false_iff]; intro h1; exact h 0 (List.contains_iff_mem.1 h1) rfl
theorem fit_of {p : List UInt8} {n : Int} (h : putHErr p n = 0) : Fit (splitA p) (splitB p) n := by
  obtain ⟨hr, h0, h1⟩ := (putHErr_ok p n).1 h
  have hs := split_some hr
  have hz := parts_nonzero p.length p (Nat.le_refl _) hs.1
  have hj : joinS (splitA p) (splitB p) = p := hs.2.2.2.2.2
  have hA : ∀ c ∈ splitA p, c ≠ 0 := fun c hc => hz c (by
    rw [← hj, joinS, if_neg (List.ne_nil_of_mem hc)]; simp [hc])
  have hB : ∀ c ∈ splitB p, c ≠ 0 := fun c hc => hz c (by
    rw [← hj, joinS]; split
    · exact hc
    · simp [hc])
  refine ⟨(fieldErr_ok _ _).2 ⟨by omega, by omega, no_zero hB, by have := hs.2.2.2.1; omega⟩, (fieldErr_ok _ _).2 ⟨by omega, by omega, no_zero hA, by have := hs.2.2.1; omega⟩, ?_⟩
  have h8 : (8 : Nat) ^ 11 = 8589934592 := by decide
  rw [putErr_ok, show (12 : Int).toNat - 1 = 11 from rfl, h8]; omega
/-- What Get answers. -/
def rawPath (b : List UInt8) : List UInt8 := joinT (nameT ((b.take 500).drop 345)) (nameT (b.take 100))
def rawErr (b : List UInt8) : Int := joinErr (nameT ((b.take 500).drop 345)) (nameT (b.take 100))
def rawSize (b : List UInt8) : Int := getN ((b.take 136).drop 124)
def isHdr (b : List UInt8) : Bool := rawErr b == 0 && (putHErr (rawPath b) (rawSize b) == 0 && putH (rawPath b) (rawSize b) == b)
def getHErr (b : List UInt8) : Int := if b.length < 512 then 3 else if isHdr b then 0 else 2
def getHPath (b : List UInt8) : List UInt8 := if getHErr b = 0 then rawPath b else []
def getHSize (b : List UInt8) : Int := if getHErr b = 0 then rawSize b else 0
theorem putH_len {p : List UInt8} {n : Int} (h : putHErr p n = 0) : (putH p n).length = 512 := by rw [putH, if_pos h, hdrL_len (fit_of h)]
theorem isHdr_of {b : List UInt8} (h : isHdr b = true) : rawErr b = 0 ∧ putHErr (rawPath b) (rawSize b) = 0 ∧ putH (rawPath b) (rawSize b) = b := by
  simp only [isHdr, Bool.and_eq_true, beq_iff_eq] at h; exact h
theorem getHErr_zero {b : List UInt8} : getHErr b = 0 ↔ isHdr b = true := by
  unfold getHErr
  by_cases h : b.length < 512
  · rw [if_pos h]
    refine ⟨fun e => (by cases e), fun e => ?_⟩
    obtain ⟨_, h2, h3⟩ := isHdr_of e
    rw [← h3, putH_len h2] at h; omega
  · rw [if_neg h]; split
    · rename_i h1; exact ⟨fun _ => h1, fun _ => rfl⟩
    · rename_i h1; exact ⟨fun e => (by cases e), fun e => absurd e h1⟩
theorem getHErr_cases (b : List UInt8) : getHErr b = 0 ∨ getHErr b = 2 ∨ getHErr b = 3 := by
  unfold getHErr; split
  · exact .inr (.inr rfl)
  · split
    · exact .inl rfl
    · exact .inr (.inl rfl)
/-- What is got is put as it stood. -/
theorem put_getH {b : List UInt8} (h : getHErr b = 0) : putHErr (getHPath b) (getHSize b) = 0 ∧ putH (getHPath b) (getHSize b) = b := by
  obtain ⟨-, h2, h3⟩ := isHdr_of (getHErr_zero.1 h)
  rw [getHPath, getHSize, if_pos h, if_pos h]
  exact ⟨h2, h3⟩
theorem getH_len {b : List UInt8} (h : getHErr b = 0) : b.length = 512 := by
  obtain ⟨h1, h2⟩ := put_getH h
  rw [← h2, putH_len h1]
/-- No byte of a header may be another one. -/
theorem turned {p : List UInt8} {n : Int} {x : List UInt8} (hl : x.length = 512) (hx : x ≠ putH p n) : getHErr x = 2 ∨ (getHErr x = 0 ∧ (getHPath x ≠ p ∨ getHSize x ≠ n)) := by
  rcases getHErr_cases x with h0 | h2 | h3
  · refine .inr ⟨h0, ?_⟩
    by_cases h1 : getHPath x = p
    · refine .inr fun h2 => hx ?_
      rw [← (put_getH h0).2, h1, h2]
    · exact .inl h1
  · exact .inl h2
  · unfold getHErr at h3; rw [if_neg (by omega)] at h3; split at h3 <;> cases h3
theorem longer {x : List UInt8} (h : 512 < x.length) : getHErr x = 2 := by
  rcases getHErr_cases x with h0 | h2 | h3
  · have := getH_len h0; omega
  · exact h2
  · unfold getHErr at h3; rw [if_neg (by omega)] at h3; split at h3 <;> cases h3
end Go.Proofs.YtppmbdpfledejaaGreatDoor
namespace Go.Proofs.YtppmbdpfledejaaGreatDoor
open Go.RowKit
/-- A file: its path and its bytes. -/
abbrev F8 := List UInt8 × List UInt8
def zeros (n : Nat) : List UInt8 := List.replicate n 0
end Go.Proofs.YtppmbdpfledejaaGreatDoor
namespace Go.Proofs.YtppmbdpfledejaaGreatDoor
open Go.RowKit
/-- Files as the cells of a slice: each a path and a slice of bytes. -/
def filesC : List (F8 × Value) → List Value
  | [] => []
  | x :: t => .string (str x.1.1) :: x.2 :: filesC t
theorem filesC_append (us vs : List (F8 × Value)) : filesC (us ++ vs) = filesC us ++ filesC vs := by
  induction us with
  | nil => rfl
  | cons x t ih => rw [List.cons_append, filesC, filesC, ih]; rfl
theorem filesC_path (us : List (F8 × Value)) : ∀ k x, us[k]? = some x → (filesC us)[k * 2]? = some (.string (str x.1.1)) ∧ (filesC us)[k * 2 + 1]? = some x.2 := by
  induction us with
  | nil => intro k x h; simp at h
  | cons y t ih =>
    intro k x h
    cases k with
    | zero => simp at h; subst h; exact ⟨rfl, rfl⟩
    | succ k =>
      have := ih k x (by simpa using h)
      rw [filesC, show (k + 1) * 2 = k * 2 + 2 from by omega]
      exact this
/-- A slice value whose elements are these files. -/
def HasFiles (w : World) (v : Value) (l : List F8) : Prop :=
  ∃ us : List (F8 × Value), us.map (·.1) = l ∧ (∀ x ∈ us, HasText w x.2 x.1.2) ∧ ∃ ao cap, v = .slice ao us.length cap ∧ (ao = none → us = [] ∧ cap = 0) ∧ ∀ ad, ao = some ad → us.length ≤ cap ∧ ∀ j u, (filesC us)[j]? = some u → w.cell? (ad.add j) = some u
theorem files_nil (w : World) : HasFiles w (.slice none 0 0) [] := ⟨[], rfl, (fun _ h => by cases h), none, 0, rfl, fun _ => ⟨rfl, rfl⟩, fun _ h => by cases h⟩
theorem files_below {w w' : World} {v : Value} {l : List F8} (h : HasFiles w v l) (hb : Below w.heap.size w w') : HasFiles w' v l := by
  obtain ⟨us, h1, h2, ao, cap, rfl, hnil, hc⟩ := h
  refine ⟨us, h1, fun x hx => has_below (h2 x hx) hb, ao, cap, rfl, hnil, fun ad had => ⟨(hc ad had).1, fun j u hu => ?_⟩⟩
  have h1 := (hc ad had).2 j u hu
  exact (World.cell?_of_block (hb.block (ad.add j).block (World.block_lt_of_cell? w _ h1))).trans h1
theorem files_shape {w : World} {v : Value} {l : List F8} (h : HasFiles w v l) (n : Nat) (hn : n = l.length) : ∃ ao cap, v = .slice ao n cap := by
  obtain ⟨us, rfl, -, ao, cap, rfl, -⟩ := h
  exact ⟨ao, cap, by rw [hn, List.length_map]⟩
theorem addr_next (ad : Addr) (k : Nat) : ad.add (k + 1) = ⟨(ad.add k).block, (ad.add k).off + 1, none⟩ := by
  unfold Addr.add
  rw [if_neg (by omega)]
  split
  · rename_i h; subst h; rfl
  · rfl
/-- A file of such a slice. -/
theorem files_at {w : World} {v : Value} {l : List F8} (h : HasFiles w v l) (n k : Nat) (hn : l.length = n) (f : F8) (hf : l[k]? = some f) : ∃ ad cap u, v = .slice (some ad) n cap ∧ w.cell? (ad.add (k * 2)) = some (.string (str f.1)) ∧ w.cell? ⟨(ad.add (k * 2)).block, (ad.add (k * 2)).off + 1, none⟩ = some u ∧ HasText w u f.2 := by
  obtain ⟨us, rfl, h2, ao, cap, rfl, hnil, hc⟩ := h
  rw [List.getElem?_map] at hf
  cases hx : us[k]? with
  | none => rw [hx] at hf; cases hf
  | some x =>
    rw [hx] at hf; cases hf
    cases ao with
    | none => obtain ⟨rfl, _⟩ := hnil rfl; simp at hx
    | some ad =>
      obtain ⟨p1, p2⟩ := filesC_path us k x hx
      exact ⟨ad, cap, x.2, by rw [← hn, List.length_map], (hc ad rfl).2 _ _ p1, by rw [← addr_next]; exact (hc ad rfl).2 _ _ p2, h2 x (List.mem_of_getElem? hx)⟩
end Go.Proofs.YtppmbdpfledejaaGreatDoor
namespace Go.Proofs.YtppmbdpfledejaaGreatDoor
open Go.RowKit
theorem text_keep {w w' : World} {v : Value} {l : List UInt8} (h : HasText w v l) (hb : Below w.heap.size w w') : HasText w' v l := has_below h hb
end Go.Proofs.YtppmbdpfledejaaGreatDoor
namespace Go.Proofs.YtppmbdpfledejaaGreatDoor
open Go.RowKit
/-- Are two files the same? -/
theorem files_eq_at {a b : List F8} {k : Nat} {f g : F8} (hf : a[k]? = some f) (hg : b[k]? = some g) (h : f.1 ≠ g.1 ∨ f.2 ≠ g.2) : a ≠ b := fun e => by
  subst e
  rw [hf] at hg; cases hg
  rcases h with h | h <;> exact h rfl
set_option maxRecDepth 100000 in
set_option maxHeartbeats 4000000 in
theorem same_any (w : World) (v x : Value) (a b : List F8) (hv : HasFiles w v a) (hx : HasFiles w x b) (hla : a.length < 4611686018427387904) (hlb : b.length < 4611686018427387904) : Calls Tryz.prog 18 #[v, x] w fun e w' => e = .returned (.bool (decide (a = b))) ∧ Below w.heap.size w w' := by
  obtain ⟨n, hn⟩ : ∃ n, n = a.length := ⟨_, rfl⟩
  obtain ⟨m, hm⟩ : ∃ m, m = b.length := ⟨_, rfl⟩
  obtain ⟨ao, cap, rfl⟩ := files_shape hv n hn
  obtain ⟨bo, cap', rfl⟩ := files_shape hx m hm
  have HV := Lib.hid (And.intro hv hx)
  have HN := Lib.hid (And.intro hn hm)
  rw [← hn] at hla
  rw [← hm] at hlb
  by_cases hnm : n = m
  · subst hnm
    clear hn hm hv hx hlb
    go_enter Tryz.func18, Tryz.ntmps18
    go_wp2
    go_loopw [5] (fun i wr => Below w.heap.size w wr ∧ ∃ k : Nat, k ≤ n ∧ i = .int .i64 k ∧ ∀ j, j < k → a[j]? = b[j]?) (fun i _ => n - (intOf i).toNat)
    case atStart => exact ⟨Below.refl _ _, 0, by omega, rfl, fun j hj => by omega⟩
    case round =>
      obtain ⟨hb, k, hk, rfl, hall⟩ := hrel
      have HB := Lib.hid hb
      have HA := Lib.hid hall
      clear hall hb
      by_cases hlt : k < n
      · obtain ⟨f, hf⟩ : ∃ f, a[k]? = some f := ⟨a[k]'(by have := HN.out.1; omega), List.getElem?_eq_getElem _⟩
        obtain ⟨g, hg⟩ : ∃ g, b[k]? = some g := ⟨b[k]'(by have := HN.out.2; omega), List.getElem?_eq_getElem _⟩
        obtain ⟨ad, c1, u, e, p1, p2, p3⟩ := files_at (files_below HV.out.1 HB.out) n k HN.out.1.symm f hf
        obtain ⟨bd, c2, y, e', r1, r2, r3⟩ := files_at (files_below HV.out.2 HB.out) n k HN.out.2.symm g hg
        cases e; cases e'
        have cv1 := fun i => conv_text Tryz.underlying43 Tryz.underlying5 Tryz.underlying9 (text_keep p3 (below_draws (Below.refl wr.heap.size wr) i))
        have cv2 := fun i => conv_text Tryz.underlying43 Tryz.underlying5 Tryz.underlying9 (text_keep r3 (below_draws (Below.refl wr.heap.size wr) i))
        obtain ⟨F1, F2⟩ := f
        obtain ⟨G1, G2⟩ := g
        have hl1 : (str F1).toList = F1 := str_toList _
        have hl2 : (str F2).toList = F2 := str_toList _
        have hl3 : (str G1).toList = G1 := str_toList _
        have hl4 : (str G2).toList = G2 := str_toList _
        have HE := Lib.hid (And.intro hf hg)
        have q0 : (k : Int) < (n : Int) := by omega
        dsimp only at p1 r1 cv1 cv2
        clear hf hg p3 r3 hlt
        cases e1 : (F1 == G1) with
        | false =>
          have HR := Lib.hid (show decide (a = b) = false from decide_eq_false (files_eq_at HE.out.1 HE.out.2 (.inl (beq_eq_false_iff_ne.1 e1))))
          go_wp2
          go_quiet (fail)
          go_wp2
          go_ret
          exact ⟨by rw [HR.out]; rfl, below_draws HB.out _⟩
        | true =>
          cases e2 : (F2 == G2) with
          | false =>
            have HR := Lib.hid (show decide (a = b) = false from decide_eq_false (files_eq_at HE.out.1 HE.out.2 (.inr (beq_eq_false_iff_ne.1 e2))))
            go_wp2
            go_quiet (fail)
            go_wp2
            go_ret
            exact ⟨by rw [HR.out]; rfl, below_draws HB.out _⟩
          | true =>
            have HR := Lib.hid (show a[k]? = b[k]? by rw [HE.out.1, HE.out.2, beq_iff_eq.1 e1, beq_iff_eq.1 e2])
            go_wp2
            go_quiet (fail)
            go_wp2
            go_roundw
            case rel => exact ⟨below_draws HB.out _, k + 1, by omega, by go_num, fun j hj => by
              rcases Nat.lt_or_ge j k with h | h
              · exact HA.out j h
              · obtain rfl : j = k := by omega
                exact HR.out⟩
            case measure => simp [intOf]; omega
      · have q0 : ¬ (k : Int) < (n : Int) := by omega
        have HR := Lib.hid (show decide (a = b) = true from decide_eq_true (List.ext_getElem? fun j => by
          rcases Nat.lt_or_ge j k with h | h
          · exact HA.out j h
          · rw [List.getElem?_eq_none (by have := HN.out; omega), List.getElem?_eq_none (by have := HN.out; omega)]))
        clear hlt
        go_wp2
        go_ret
        exact ⟨by rw [HR.out]; rfl, HB.out⟩
  · have q0 : ¬ (n : Int) = (m : Int) := by omega
    have HR := Lib.hid (show decide (a = b) = false from decide_eq_false (fun e => by subst e; have := HN.out; omega))
    clear hn hm hv hx hnm
    go_enter Tryz.func18, Tryz.ntmps18
    go_wp2
    go_ret
    exact ⟨by rw [HR.out]; rfl, Below.refl _ _⟩
end Go.Proofs.YtppmbdpfledejaaGreatDoor
