/-
Texts that all claims of this seat share, part 4: CloneDots, HeadsFns, Insert, HeadsAdd.
-/
import Derived.Laws.AppendOwn
import Derived.OwnWalk
import Derived.Lib.SliceRun
import Derived.Shelf.Spec.SlicesInsert
import Derived.Lib.AppendZerosOnto
import Derived.Test.YtcdjkjadbhejpaaGreatDoorPk3
namespace Go.Proofs.YtcdjkjadbhejpaaGreatDoor
open Go.RowKit
theorem append_dotsM {P : Program} {w : World} {ops : Array Oper} {rest : List Oper} {o : Oper} {a : Act} {Q : Exit → Act → World → Prop} (hgd : o.guard = none) (s x : Operand) (t : TypeId)
    (ho : o.op = .call { callee := .builtin .append, args := #[s, x], argTypes := #[t, t] })
    (base : Nat) (e : TypeId) (i : TypeInfo) (ht : P.underlying t = some (.slice e)) (hi : P.info? e = some i) (hz : (i.zero.map (·.cells.size), i.size, i.bytes) = (some 2, 2, 16))
    (v : Value) (l m : List D2) (hs : a.eval s = v) (hown : w.ownsRow base e 2 v l.length (dotsC l)) (ad : Addr) (n c : Nat) (hx : a.eval x = .slice (some ad) n c) (hn : n = m.length)
    (hc : ∀ j u, (dotsC m)[j]? = some u → w.cell? (ad.add j) = some u)
    (hlen : l.length + m.length ≤ 2000000) (hbase : base ≤ w.heap.size)
    (h : ∀ v' w', w'.ownsRow base e 2 v' (l ++ m).length (dotsC (l ++ m)) → w.grownBy w' v.ownBlock → wpList P ops Q rest (a.put o.dst v') w') : wpList P ops Q (o :: rest) a w := by
  simp only [Prod.mk.injEq] at hz
  obtain ⟨hz1, hz2, hz3⟩ := hz
  cases hzz : i.zero with
  | none => rw [hzz] at hz1; cases hz1
  | some z =>
    rw [hzz] at hz1
    simp only [Option.map_some, Option.some.injEq] at hz1
    refine wpList_append_own w hgd s x t ho base e i z 2 16 ht hi hzz hz2 hz3 hz1 (by decide) v l.length (dotsC l) hs hown ad n c (dotsC m) hx (by rw [dotsC_length, hn]) hc (fun u hu => dotsC_one m u hu)
      (by unfold maxLen; omega) (by omega) hbase fun v' w' h1 h2 _ => h v' w' (by rw [dotsC_append, List.length_append, ← hn]; exact h1) h2
set_option maxRecDepth 100000 in
set_option maxHeartbeats 4000000 in
theorem cloneD_any (l : List D2) (hl : l.length < 2000000) (v : Value) (w : World) (hv : HasDots w v l) : Calls Tryz.prog 80 #[v] w fun e w' => ∃ x, e = .returned x ∧ TypDots w' x l ∧ Below w.heap.size w w' := by
  obtain ⟨i0, hi, hz⟩ := infoDot
  have q22 : ∀ (w : World) (a : Option Addr) (n c n' c' : Nat), (binOp .eql 26 (.slice a n c) (.slice none n' c')).run Tryz.prog w = .ok (.bool a.isNone) w := fun w a n c n' c' => Lib.run_eql_slice_nil w _ _ a n c n' c' Tryz.underlying26
  have u22 : ∀ w, Sem.run Tryz.prog (underlying 26) w = .ok (TypeDesc.slice 24) w := run_underlying Tryz.underlying26
  obtain ⟨ao, cap, rfl, hnil, hc⟩ := hv
  cases ao with
  | none =>
    obtain ⟨rfl, rfl⟩ := hnil rfl
    clear hc hnil
    go_enter Tryz.func80, Tryz.ntmps80
    go_wp2
    go_ret
    exact ⟨_, rfl, typ_nil _, Below.refl _ _⟩
  | some ad =>
    have HC := Lib.hid (hc ad rfl).2
    have HL := Lib.hid hl
    obtain ⟨n, hn⟩ : ∃ n, n = l.length := ⟨_, rfl⟩
    have HN := Lib.hid hn
    rw [← hn]
    have HB := Lib.hid ((Below.refl w.heap.size w).alloc (Nat.le_refl _) (.cells #[] 24 (0, 0)))
    clear hc hnil hl hn
    go_enter Tryz.func80, Tryz.ntmps80
    go_wp2_with (first
      | (at_builtin; refine append_dotsM rfl (.tmp 5) (.tmp 6) 26 rfl w.heap.size 24 i0 Tryz.underlying26 hi hz _ [] l rfl (World.ownsRow_made w #[] 0 (Nat.le_refl _) (Nat.zero_le _) rfl) ad n cap rfl HN.out (fun j u hu => Lib.cell?_alloc_some _ (HC.out j u hu)) (by have := HL.out; simp; omega) (by simp) ?_; intro v1 w1 ho hg; rw [List.nil_append] at ho; have HO := Lib.hid (typ_of_own ho); have HB1 := Lib.hid (below_grown HB.out hg HB.out.size (fun k hk => Nat.le_of_eq (Option.some.inj (show some w.heap.size = some k from hk)))); clear ho hg))
    go_ret
    exact ⟨_, rfl, HO.out, HB1.out⟩
end Go.Proofs.YtcdjkjadbhejpaaGreatDoor
namespace Go.Proofs.YtcdjkjadbhejpaaGreatDoor
open Go.RowKit
theorem two_ev {w : World} {B : Nat} {e f : Ev} {u v : Value} (he : EvAt w B 30 e u) : EvAt (w.alloc (.cells (evC f v) 30 (0, 0))) w.heap.size 30 f v ∧ EvAt (w.alloc (.cells (evC f v) 30 (0, 0))) B 30 e u ∧ Below w.heap.size w (w.alloc (.cells (evC f v) 30 (0, 0))) :=
  ⟨box_ev w _ f v, evAt_kept he ((Below.refl _ _).alloc (Nat.le_refl _) _), (Below.refl _ _).alloc (Nat.le_refl _) _⟩
set_option maxRecDepth 100000 in
set_option maxHeartbeats 16000000 in
theorem hit_any (e f : Ev) (hl : f.deps.length < 2000000) (u uf : Value) (B : Nat) (w : World) (he : EvAt w B 30 e u) (hd : HasDots w uf f.deps) : Calls Tryz.prog 82 #[.agg (evC f uf), .pointer (some ⟨B, 0, none⟩)] w fun x w' => x = .returned (.bool (hitE e f)) ∧ Below w.heap.size w w' := by
  have K1 := Lib.hid (fun w hv => knows_any12 f e hl uf u w hv)
  obtain ⟨h1, h2, h3⟩ := two_ev (f := f) (v := uf) he
  have E1 := Lib.hid h1
  have E2 := Lib.hid h2
  have B0 := Lib.hid h3
  have D0 := Lib.hid (dots_below hd h3)
  have c1 := (evAt_cells h1).2.2.2.2.1
  have c2 := (evAt_cells h2).2.2.2.2.1
  have s1 : (str f.path).toList = f.path := str_toList _
  have s2 : (str e.path).toList = e.path := str_toList _
  clear h1 h2 h3 he hd hl
  cases hp : (f.path == e.path) with
  | false =>
    have HM := Lib.hid (show hitE e f = false by unfold hitE; rw [hp]; rfl)
    go_enter Tryz.func82, Tryz.ntmps82
    go_upto_region 1 with fail
    generalize w.alloc (.cells (evC f uf) 30 (0, 0)) = W0 at *
    go_wp2
    go_ret
    exact ⟨by rw [HM.out]; rfl, B0.out⟩
  | true =>
    by_cases hq : f.r = e.r ∧ f.q = e.q
    · have hk : ∀ w, (binOp .eql 24 (.agg #[.int .i64 f.r, .int .i64 f.q]) (.agg #[.int .i64 e.r, .int .i64 e.q])).run Tryz.prog w = .ok (.bool true) w := fun w => by rw [hq.1, hq.2]; go_simp
      have HM := Lib.hid (show hitE e f = true by unfold hitE; rw [hp, (dotE_iff f e).2 hq]; rfl)
      clear hq
      go_enter Tryz.func82, Tryz.ntmps82
      go_upto_region 1 with fail
      generalize w.alloc (.cells (evC f uf) 30 (0, 0)) = W0 at *
      go_wp2_with (first
        | (refine load_str_on (by rfl) 9 (.tmp 4) rfl ⟨w.heap.size, 4, none⟩ rfl (str f.path) Tryz.underlying9 c1 ?_)
        | (refine load_str_on (by rfl) 9 (.tmp 6) rfl ⟨B, 4, none⟩ rfl (str e.path) Tryz.underlying9 c2 ?_)
        | (refine load_dot10 (by rfl) 24 (.tmp 10) rfl ⟨w.heap.size, 0, none⟩ rfl f.r f.q Tryz.underlying24 (by kernel_rfl) (evAt_dot E1.out) ?_)
        | (refine load_dot10 (by rfl) 24 (.tmp 12) rfl ⟨B, 0, none⟩ rfl e.r e.q Tryz.underlying24 (by kernel_rfl) (evAt_dot E2.out) ?_))
      go_ret
      exact ⟨by rw [HM.out]; rfl, B0.out⟩
    · have hk : ∀ w, (binOp .eql 24 (.agg #[.int .i64 f.r, .int .i64 f.q]) (.agg #[.int .i64 e.r, .int .i64 e.q])).run Tryz.prog w = .ok (.bool false) w := fun w => by go_simp; by_cases h1 : f.r = e.r <;> by_cases h2 : f.q = e.q <;> simp_all
      have HM := Lib.hid (show hitE e f = hasV f.deps e.r e.q by
        have hdq : dotE f e = false := by cases h : dotE f e with | false => rfl | true => exact absurd ((dotE_iff f e).1 h) hq
        unfold hitE knE; rw [hp, hdq]; rfl)
      clear hq
      go_enter Tryz.func82, Tryz.ntmps82
      go_upto_region 1 with fail
      generalize w.alloc (.cells (evC f uf) 30 (0, 0)) = W0 at *
      go_wp2_with (first
        | (refine load_str_on (by rfl) 9 (.tmp 4) rfl ⟨w.heap.size, 4, none⟩ rfl (str f.path) Tryz.underlying9 c1 ?_)
        | (refine load_str_on (by rfl) 9 (.tmp 6) rfl ⟨B, 4, none⟩ rfl (str e.path) Tryz.underlying9 c2 ?_)
        | (refine load_dot10 (by rfl) 24 (.tmp 10) rfl ⟨w.heap.size, 0, none⟩ rfl f.r f.q Tryz.underlying24 (by kernel_rfl) (evAt_dot E1.out) ?_)
        | (refine load_dot10 (by rfl) 24 (.tmp 12) rfl ⟨B, 0, none⟩ rfl e.r e.q Tryz.underlying24 (by kernel_rfl) (evAt_dot E2.out) ?_)
        | (refine load_ev_on (by rfl) 30 (.tmp 2) rfl w.heap.size rfl E1.out Tryz.underlying30 evSize ?_)
        | (refine load_ev_on (by rfl) 30 (.tmp 1) rfl B rfl E2.out Tryz.underlying30 evSize ?_)
        | (go_at_call 73; refine (K1.out _ D0.out).mono ?_; rintro x w1 ⟨rfl, hb⟩; have B1 := Lib.hid (below_next B0.out hb); clear hb))
      go_ret
      exact ⟨by rw [HM.out]; rfl, B1.out⟩
set_option maxRecDepth 100000 in
set_option maxHeartbeats 16000000 in
theorem out_any (e f : Ev) (hl : e.deps.length < 2000000) (u uf : Value) (B : Nat) (w : World) (he : EvAt w B 30 e u) (hd : HasDots w u e.deps) : Calls Tryz.prog 84 #[.agg (evC f uf), .pointer (some ⟨B, 0, none⟩)] w fun x w' => x = .returned (.bool (outE e f)) ∧ Below w.heap.size w w' := by
  have K1 := Lib.hid (fun w hv => knows_any12 e f hl u uf w hv)
  obtain ⟨h1, h2, h3⟩ := two_ev (f := f) (v := uf) he
  have E1 := Lib.hid h1
  have E2 := Lib.hid h2
  have B0 := Lib.hid h3
  have D0 := Lib.hid (dots_below hd h3)
  have c1 := (evAt_cells h1).2.2.2.2.1
  have c2 := (evAt_cells h2).2.2.2.2.1
  have s1 : (str f.path).toList = f.path := str_toList _
  have s2 : (str e.path).toList = e.path := str_toList _
  clear h1 h2 h3 he hd hl
  cases hp : (f.path == e.path) with
  | false =>
    have HM := Lib.hid (show outE e f = false by unfold outE; rw [hp]; rfl)
    go_enter Tryz.func84, Tryz.ntmps84
    go_upto_region 1 with fail
    generalize w.alloc (.cells (evC f uf) 30 (0, 0)) = W0 at *
    go_wp2
    go_ret
    exact ⟨by rw [HM.out]; rfl, B0.out⟩
  | true =>
    have HM := Lib.hid (show outE e f = hasV e.deps f.r f.q by unfold outE knE; rw [hp]; rfl)
    go_enter Tryz.func84, Tryz.ntmps84
    go_upto_region 1 with fail
    generalize w.alloc (.cells (evC f uf) 30 (0, 0)) = W0 at *
    go_wp2_with (first
      | (refine load_str_on (by rfl) 9 (.tmp 4) rfl ⟨w.heap.size, 4, none⟩ rfl (str f.path) Tryz.underlying9 c1 ?_)
      | (refine load_str_on (by rfl) 9 (.tmp 6) rfl ⟨B, 4, none⟩ rfl (str e.path) Tryz.underlying9 c2 ?_)
      | (refine load_ev_on (by rfl) 30 (.tmp 1) rfl B rfl E2.out Tryz.underlying30 evSize ?_)
      | (refine load_ev_on (by rfl) 30 (.tmp 2) rfl w.heap.size rfl E1.out Tryz.underlying30 evSize ?_)
      | (go_at_call 73; refine (K1.out _ D0.out).mono ?_; rintro x w1 ⟨rfl, hb⟩; have B1 := Lib.hid (below_next B0.out hb); clear hb))
    go_ret
    exact ⟨by rw [HM.out]; rfl, B1.out⟩
set_option maxRecDepth 100000 in
set_option maxHeartbeats 16000000 in
theorem above_any (e f : Ev) (he1 : I64 e.r) (he2 : I64 e.q) (hf1 : I64 f.r) (hf2 : I64 f.q) (u uf : Value) (B : Nat) (w : World) (he : EvAt w B 30 e u) : Calls Tryz.prog 86 #[.agg (evC f uf), .pointer (some ⟨B, 0, none⟩)] w fun x w' => x = .returned (.bool (aboveE e f)) ∧ Below w.heap.size w w' := by
  have CM := Lib.hid (fun w => cmp_any12 f e hf1 hf2 he1 he2 uf u w)
  obtain ⟨h1, h2, h3⟩ := two_ev (f := f) (v := uf) he
  have E1 := Lib.hid h1
  have E2 := Lib.hid h2
  have B0 := Lib.hid h3
  have HM := Lib.hid (show aboveE e f = decide (0 < cmpE f e) from rfl)
  obtain ⟨c, hc⟩ : ∃ c, c = cmpE f e := ⟨_, rfl⟩
  rw [← hc] at CM HM
  clear h1 h2 h3 he hc he1 he2 hf1 hf2
  go_enter Tryz.func86, Tryz.ntmps86
  go_upto_region 1 with fail
  generalize w.alloc (.cells (evC f uf) 30 (0, 0)) = W0 at *
  go_wp2_with (first
    | (refine load_ev_on (by rfl) 30 (.tmp 2) rfl w.heap.size rfl E1.out Tryz.underlying30 evSize ?_)
    | (refine load_ev_on (by rfl) 30 (.tmp 1) rfl B rfl E2.out Tryz.underlying30 evSize ?_)
    | (go_at_call 72; refine (CM.out _).mono ?_; rintro x w1 ⟨rfl, hb⟩; have B1 := Lib.hid (below_next B0.out hb); clear hb))
  go_ret
  exact ⟨by rw [HM.out]; rfl, B1.out⟩
/-- The place of the first one of which p holds; -1, if there is none. -/
def idxP (p : Ev → Bool) (l : List Ev) : Int := if l.any p then (l.findIdx p : Nat) else -1
theorem idxP_hit {p : Ev → Bool} {l : List Ev} {k : Nat} {e : Ev} (hk : l[k]? = some e) (hp : p e = true) (hn : ∀ j x, j < k → l[j]? = some x → p x = false) : idxP p l = (k : Int) := by
  have hkl : k < l.length := (List.getElem?_eq_some_iff.1 hk).1
  have ha : l.any p = true := List.any_eq_true.2 ⟨e, List.mem_of_getElem? hk, hp⟩
  have hf : l.findIdx p = k := by
    rw [List.findIdx_eq hkl]
    refine ⟨by rw [List.getElem?_eq_getElem hkl] at hk; rw [Option.some.inj hk]; exact hp, fun j hj => ?_⟩
    exact hn j _ hj (List.getElem?_eq_getElem (by omega))
  rw [idxP, if_pos ha, hf]
theorem idxP_miss {p : Ev → Bool} {l : List Ev} (hn : ∀ j x, j < l.length → l[j]? = some x → p x = false) : idxP p l = -1 := by
  have ha : l.any p = false := by
    rw [List.any_eq_false]
    intro x hx
    obtain ⟨j, hj, rfl⟩ := List.mem_iff_getElem.1 hx
    rw [hn j _ hj (List.getElem?_eq_getElem hj)]; simp
  rw [idxP, ha]; simp
theorem idxP_any (p : Ev → Bool) (l : List Ev) : decide (0 ≤ idxP p l) = l.any p := by
  unfold idxP
  cases l.any p <;> simp
/-- What is asked of a closure over events. -/
def Tells (g : Nat) (lb : Array Value) (p : Ev → Bool) (us : List (Ev × Value)) (w : World) : Prop :=
  ∀ x ∈ us, ∀ W, Below w.heap.size w W → Calls Tryz.prog g (#[.agg (evC x.1 x.2)] ++ lb) W fun e w' => e = .returned (.bool (p x.1)) ∧ Below W.heap.size W w'
theorem tells_below {g : Nat} {lb : Array Value} {p : Ev → Bool} {us : List (Ev × Value)} {w w' : World} (h : Tells g lb p us w) (hb : Below w.heap.size w w') : Tells g lb p us w' := fun x hx W hW => h x hx W (below_next hb hW)
theorem fst_at {us : List (Ev × Value)} {k : Nat} {x : Ev × Value} (h : us[k]? = some x) : (us.map (·.1))[k]? = some x.1 := by rw [List.getElem?_map, h]; rfl
set_option maxRecDepth 100000 in
set_option maxHeartbeats 16000000 in
theorem index_any (g : Nat) (lb : Array Value) (eg : ∀ args w, (callFunc g args).run Tryz.prog w = .ok (.enter g args) w) (p : Ev → Bool) (us : List (Ev × Value)) (hl : us.length ≤ 50000) (v : Value) (w : World) (hv : HoldsU w v us) (hp : Tells g lb p us w) : Calls Tryz.prog 85 #[v, .func (.func g) #[] lb] w fun x w' => x = .returned (.int .i64 (idxP p (us.map (·.1)))) ∧ Below w.heap.size w w' := by
  have HV := Lib.hid hv
  have HP := Lib.hid hp
  obtain ⟨n, hn⟩ : ∃ n, n = us.length := ⟨_, rfl⟩
  obtain ⟨ao, cap, rfl⟩ := holdsU_shape hv n hn
  have HN := Lib.hid hn
  have hn5 : n ≤ 50000 := by omega
  clear hv hp hn hl
  go_enter Tryz.func85, Tryz.ntmps85
  go_wp2
  go_loopw [5, 8] (fun _ c wr => ∃ k : Nat, k ≤ n ∧ c = .int .i64 (k : Int) ∧ (∀ j x, j < k → (us.map (·.1))[j]? = some x → p x = false) ∧ Below w.heap.size w wr) (fun _ c _ => n - (intOf c).toNat)
  case atStart => exact ⟨0, Nat.zero_le _, rfl, fun j x hj => absurd hj (Nat.not_lt_zero _), Below.refl _ _⟩
  case round =>
    obtain ⟨k, hk, rfl, hall, hb⟩ := hrel
    have HA := Lib.hid hall
    have HB := Lib.hid hb
    clear hall hb
    by_cases hkn : k < n
    · have q0 : (k : Int) < (n : Int) := by omega
      have q1 : (k : Int) < 50000 := by omega
      obtain ⟨y, hy⟩ : ∃ y, us[k]? = some y := ⟨_, List.getElem?_eq_getElem (by have := HN.out; omega)⟩
      obtain ⟨ad, cap', e1, hc⟩ := holdsU_at (holdsU_below HV.out HB.out) n k HN.out.symm y hy
      cases e1
      have HC := Lib.hid hc
      have HY := Lib.hid hy
      have hcall := Lib.hid (HP.out y (List.mem_of_getElem? hy) wr HB.out)
      obtain ⟨ye, yv⟩ := y
      dsimp only at hcall HC
      clear hc hy
      cases hpy : p ye with
      | true =>
        rw [hpy] at hcall
        have HR := Lib.hid (show idxP p (us.map (·.1)) = (k : Int) from idxP_hit (fst_at HY.out) hpy HA.out)
        clear hpy
        go_wp2_with (first
          | (refine load_evA_on (by rfl) 30 (.tmp 14) rfl (ad.add (k * 38)) rfl Tryz.underlying30 evSize HC.out ?_)
          | (go_at_fn g; refine hcall.out.mono ?_; rintro x w1 ⟨rfl, hb⟩; have B1 := Lib.hid (below_next HB.out hb); clear hb))
        go_ret
        exact ⟨by rw [HR.out]; rfl, B1.out⟩
      | false =>
        rw [hpy] at hcall
        have HF := Lib.hid hpy
        clear hpy
        go_wp2_with (first
          | (refine load_evA_on (by rfl) 30 (.tmp 14) rfl (ad.add (k * 38)) rfl Tryz.underlying30 evSize HC.out ?_)
          | (go_at_fn g; refine hcall.out.mono ?_; rintro x w1 ⟨rfl, hb⟩; have B1 := Lib.hid (below_next HB.out hb); clear hb))
        refine ⟨⟨k + 1, by omega, by go_num, fun j x hj hx => ?_, B1.out⟩, by simp [intOf] <;> omega⟩
        rcases Nat.lt_or_ge j k with h | h
        · exact HA.out j x h hx
        · obtain rfl : j = k := by omega
          rw [fst_at HY.out] at hx; cases hx; exact HF.out
    · obtain rfl : k = n := by omega
      have q0 : ¬ (k : Int) < (k : Int) := by omega
      have HR := Lib.hid (show idxP p (us.map (·.1)) = -1 from idxP_miss (fun j x hj => HA.out j x (by rw [List.length_map] at hj; have := HN.out; omega)))
      go_wp2
      go_ret
      exact ⟨by rw [HR.out]; rfl, HB.out⟩
set_option maxRecDepth 100000 in
set_option maxHeartbeats 16000000 in
theorem contains_any (g : Nat) (lb : Array Value) (eg : ∀ args w, (callFunc g args).run Tryz.prog w = .ok (.enter g args) w) (p : Ev → Bool) (us : List (Ev × Value)) (hl : us.length ≤ 50000) (v : Value) (w : World) (hv : HoldsU w v us) (hp : Tells g lb p us w) : Calls Tryz.prog 81 #[v, .func (.func g) #[] lb] w fun x w' => x = .returned (.bool ((us.map (·.1)).any p)) ∧ Below w.heap.size w w' := by
  have IX := Lib.hid (index_any g lb eg p us hl v w hv hp)
  have HR := Lib.hid (idxP_any p (us.map (·.1)))
  generalize idxP p (us.map (·.1)) = r at IX HR
  clear hl hv hp
  go_enter Tryz.func81, Tryz.ntmps81
  go_wp2_with (first
    | (go_at_call 85; refine IX.out.mono ?_; rintro x w1 ⟨rfl, hb⟩))
  go_ret
  exact ⟨by rw [← HR.out]; rfl, hb⟩
theorem filter_take {us : List (Ev × Value)} {p : Ev → Bool} {k : Nat} {y : Ev × Value} (h : us[k]? = some y) : (us.take (k + 1)).filter (fun z => !p z.1) = (us.take k).filter (fun z => !p z.1) ++ (if p y.1 then [] else [y]) := by
  rw [List.take_add_one, h, List.filter_append]
  cases hp : p y.1 <;> simp [hp]
set_option maxRecDepth 100000 in
set_option maxHeartbeats 16000000 in
theorem without_any (g : Nat) (lb : Array Value) (eg : ∀ args w, (callFunc g args).run Tryz.prog w = .ok (.enter g args) w) (p : Ev → Bool) (us : List (Ev × Value)) (hl : us.length ≤ 50000) (v : Value) (w : World) (hv : HoldsU w v us) (hd : DepsU w us) (hp : Tells g lb p us w) : Calls Tryz.prog 83 #[v, .func (.func g) #[] lb] w fun x w' => ∃ y, x = .returned y ∧ w'.ownsRow w.heap.size 30 38 y (us.filter (fun z => !p z.1)).length (evsC (us.filter (fun z => !p z.1))) ∧ Below w.heap.size w w' := by
  have HV := Lib.hid hv
  have HP := Lib.hid hp
  have HD := Lib.hid hd
  obtain ⟨ie, hie, hiz⟩ := infoEv
  have HIZ := Lib.hid hiz
  obtain ⟨n, hn⟩ : ∃ n, n = us.length := ⟨_, rfl⟩
  obtain ⟨ao, cap, rfl⟩ := holdsU_shape hv n hn
  have HN := Lib.hid hn
  have hn5 : n ≤ 50000 := by omega
  clear hv hp hd hn hl hiz
  go_enter Tryz.func83, Tryz.ntmps83
  go_wp2
  go_loopw [5, 7, 10] (fun s _ c wr => ∃ k : Nat, k ≤ n ∧ c = .int .i64 (k : Int) ∧ wr.ownsRow w.heap.size 30 38 s ((us.take k).filter (fun z => !p z.1)).length (evsC ((us.take k).filter (fun z => !p z.1))) ∧ Below w.heap.size w wr) (fun _ _ c _ => n - (intOf c).toNat)
  case atStart => exact ⟨0, Nat.zero_le _, rfl, World.ownsRow_nil _ _ _ _, Below.refl _ _⟩
  case round =>
    obtain ⟨k, hk, rfl, hown, hb⟩ := hrel
    have HO := Lib.hid hown
    have HB := Lib.hid hb
    clear hown hb
    by_cases hkn : k < n
    · have q0 : (k : Int) < (n : Int) := by omega
      have q1 : (k : Int) < 50000 := by omega
      obtain ⟨y, hy⟩ : ∃ y, us[k]? = some y := ⟨_, List.getElem?_eq_getElem (by have := HN.out; omega)⟩
      obtain ⟨ad, cap', e1, hc⟩ := holdsU_at (holdsU_below HV.out HB.out) n k HN.out.symm y hy
      cases e1
      have HC := Lib.hid hc
      have hcall0 := Lib.hid (HP.out y (List.mem_of_getElem? hy))
      have HF := Lib.hid (filter_take (p := p) hy)
      have HL := Lib.hid (show ((us.take k).filter (fun z => !p z.1)).length ≤ 50000 by
        have h1 := List.length_filter_le (fun z : Ev × Value => !p z.1) (us.take k)
        rw [List.length_take] at h1; omega)
      obtain ⟨yo, yc, hys⟩ := dots_shape (HD.out y (List.mem_of_getElem? hy)) _ rfl
      obtain ⟨ye, yv⟩ := y
      dsimp only at hcall0 HC hys HF
      obtain ⟨yn, hyn⟩ : ∃ m, m = ye.deps.length := ⟨_, rfl⟩
      rw [← hyn] at hys
      subst hys
      generalize (us.take k).filter (fun z => !p z.1) = fs at HO HF HL
      clear hc hy hyn
      cases hpy : p ye with
      | true =>
        rw [hpy] at hcall0
        have HF := Lib.hid (show (us.take (k + 1)).filter (fun z => !p z.1) = fs by rw [HF.out, hpy]; simp)
        clear hpy
        go_wp2_with (first
          | (refine load_evA_on (by rfl) 30 (.tmp 12) rfl (ad.add (k * 38)) rfl Tryz.underlying30 evSize HC.out ?_)
          | (refine store_new rfl 30 (.tmp 7) (.tmp 13) rfl rfl wr _ (evC ye (.slice yo yn yc)) 30 rfl rfl rfl (by rw [evSize, evC_size]) (by rw [evC_size]; rfl) (evC_one _ _ rfl) ?_; rintro W2 hg hb hlt; have E2 := Lib.hid (show EvAt W2 wr.heap.size 30 ye (.slice yo yn yc) from hg); have B2 := Lib.hid (below_next HB.out hb); have O2 := Lib.hid (own_belowM HO.out hb); clear hg hb hlt)
          | (refine load_ev_on (by rfl) 30 (.tmp 7) rfl wr.heap.size rfl E2.out Tryz.underlying30 evSize ?_)
          | (go_at_fn g; refine (hcall0.out _ B2.out).mono ?_; rintro x w3 ⟨rfl, hb⟩; have B3 := Lib.hid (below_next B2.out hb); have O3 := Lib.hid (own_belowM O2.out hb); clear hb))
        exact ⟨⟨k + 1, by omega, by go_num, by rw [HF.out]; exact O3.out, B3.out⟩, by simp [intOf] <;> omega⟩
      | false =>
        rw [hpy] at hcall0
        have HF := Lib.hid (show (us.take (k + 1)).filter (fun z => !p z.1) = fs ++ [(ye, .slice yo yn yc)] by rw [HF.out, hpy]; simp)
        clear hpy
        go_upto_region 6 with (first
          | (refine load_evA_on (by rfl) 30 (.tmp 12) rfl (ad.add (k * 38)) rfl Tryz.underlying30 evSize HC.out ?_)
          | (refine store_new rfl 30 (.tmp 7) (.tmp 13) rfl rfl wr _ (evC ye (.slice yo yn yc)) 30 rfl rfl rfl (by rw [evSize, evC_size]) (by rw [evC_size]; rfl) (evC_one _ _ rfl) ?_; rintro W2 hg hb hlt; have E2 := Lib.hid (show EvAt W2 wr.heap.size 30 ye (.slice yo yn yc) from hg); have B2 := Lib.hid (below_next HB.out hb); have O2 := Lib.hid (own_belowM HO.out hb); clear hg hb hlt)
          | (refine load_ev_on (by rfl) 30 (.tmp 7) rfl wr.heap.size rfl E2.out Tryz.underlying30 evSize ?_)
          | (go_at_fn g; refine (hcall0.out _ B2.out).mono ?_; rintro x w3 ⟨rfl, hb⟩; have B3 := Lib.hid (below_next B2.out hb); have O3 := Lib.hid (own_belowM O2.out hb); have E3 := Lib.hid (evAt_kept E2.out hb); clear hb))
        obtain ⟨N9, hN9⟩ : ∃ N, w3.heap.size = N := ⟨_, rfl⟩
        have HN9 := Lib.hid hN9
        clear hN9
        go_wp2_with (first
          | (refine load_ev_on (by rfl) 30 (.tmp 7) rfl wr.heap.size rfl E3.out Tryz.underlying30 evSize ?_)
          | (refine build_evM rfl 20 rfl (.tmp 19) rfl N9 HN9.out ye yo yn yc rfl ?_; rintro wA hEA hBA hNA; have EA := Lib.hid hEA; have BA := Lib.hid (below_next B3.out hBA); have OA := Lib.hid (own_belowM O3.out hBA); clear hEA hBA hNA)
          | (refine append_evs rfl (.tmp 18) (.tmp 20) 22 rfl w.heap.size 30 ie Tryz.underlying22 hie HIZ.out _ fs [(ye, .slice yo yn yc)] rfl OA.out (fun q hq => by rw [List.mem_singleton.1 hq]; rfl) ⟨N9, 0, none⟩ 1 1 rfl rfl (evAt_one EA.out) (by have := HL.out; simp only [List.length_cons, List.length_nil]; omega) BA.out.size ?_; rintro v' w5 hown hgr; have B5 := Lib.hid (below_grown BA.out hgr BA.out.size (fun b hb => (OA.out.lt b hb).1)); have O5 := Lib.hid hown; clear hown hgr))
        exact ⟨⟨k + 1, by omega, by go_num, by rw [HF.out]; exact O5.out, B5.out⟩, by simp [intOf] <;> omega⟩
    · obtain rfl : k = n := by omega
      have q0 : ¬ (k : Int) < (k : Int) := by omega
      go_wp2
      go_ret
      exact ⟨_, rfl, by have h := HO.out; rw [List.take_of_length_le (by have := HN.out; omega)] at h; exact h, HB.out⟩
set_option maxRecDepth 100000 in
set_option maxHeartbeats 16000000 in
theorem cloneE_any (us : List (Ev × Value)) (hl : us.length ≤ 50000) (v : Value) (w : World) (hv : HoldsU w v us) (hd : DepsU w us) : Calls Tryz.prog 79 #[v] w fun x w' => ∃ y, x = .returned y ∧ w'.ownsRow w.heap.size 30 38 y us.length (evsC us) ∧ Below w.heap.size w w' := by
  obtain ⟨ie, hie, hiz⟩ := infoEv
  have HIZ := Lib.hid hiz
  have HD1 := Lib.hid (depsU_one hd)
  have q22 : ∀ (w : World) (a : Option Addr) (n c n' c' : Nat), (binOp .eql 22 (.slice a n c) (.slice none n' c')).run Tryz.prog w = .ok (.bool a.isNone) w := fun w a n c n' c' => Lib.run_eql_slice_nil w _ _ a n c n' c' Tryz.underlying22
  have u22 : ∀ w, Sem.run Tryz.prog (underlying 22) w = .ok (TypeDesc.slice 30) w := run_underlying Tryz.underlying22
  obtain ⟨ao, cap, rfl, hnil, hc⟩ := hv
  cases ao with
  | none =>
    obtain ⟨rfl, rfl⟩ := hnil rfl
    clear hc hnil hd hiz
    go_enter Tryz.func79, Tryz.ntmps79
    go_wp2
    go_ret
    exact ⟨_, rfl, World.ownsRow_nil _ _ _ _, Below.refl _ _⟩
  | some ad =>
    have HC := Lib.hid (hc ad rfl).2
    have HL := Lib.hid hl
    obtain ⟨n, hn⟩ : ∃ n, n = us.length := ⟨_, rfl⟩
    have HN := Lib.hid hn
    rw [← hn]
    have HB := Lib.hid ((Below.refl w.heap.size w).alloc (Nat.le_refl _) (.cells #[] 30 (0, 0)))
    clear hc hnil hl hn hd hiz
    go_enter Tryz.func79, Tryz.ntmps79
    go_wp2_with (first
      | (at_builtin; refine append_evs rfl (.tmp 5) (.tmp 6) 22 rfl w.heap.size 30 ie Tryz.underlying22 hie HIZ.out _ [] us rfl (World.ownsRow_made w #[] 0 (Nat.le_refl _) (Nat.zero_le _) rfl) HD1.out ad n cap rfl HN.out (fun j u hu => Lib.cell?_alloc_some _ (HC.out j u hu)) (by have := HL.out; simp; omega) (by simp) ?_; intro v1 w1 ho hg; rw [List.nil_append] at ho; have HO := Lib.hid ho; have HB1 := Lib.hid (below_grown HB.out hg HB.out.size (fun k hk => Nat.le_of_eq (Option.some.inj (show some w.heap.size = some k from hk)))); clear ho hg))
    go_ret
    exact ⟨_, rfl, by rw [HN.out]; exact HO.out, HB1.out⟩
set_option maxRecDepth 100000 in
set_option maxHeartbeats 16000000 in
theorem copied_any (us : List (Ev × Value)) (hl : us.length ≤ 50000) (hf : ∀ x ∈ us, x.1.deps.length < 2000000) (v : Value) (w : World) (hv : HoldsU w v us) (hd : DepsU w us) : Calls Tryz.prog 43 #[v] w fun x w' => ∃ y, x = .returned y ∧ HasEvs w' y (us.map (·.1)) ∧ Below w.heap.size w w' := by
  have CE := Lib.hid (cloneE_any us hl v w hv hd)
  have HD := Lib.hid hd
  have HF := Lib.hid hf
  obtain ⟨n, hn⟩ : ∃ n, n = us.length := ⟨_, rfl⟩
  rw [← hn] at CE
  have hn5 : n ≤ 50000 := by omega
  have HN := Lib.hid hn
  obtain ⟨ao, cap, hvs⟩ := holdsU_shape hv n hn
  subst hvs
  clear hl hf hv hd hn
  go_enter Tryz.func43, Tryz.ntmps43
  go_upto_region 2 with (first
    | (go_at_call 79; refine CE.out.mono ?_; rintro x w1 ⟨y, rfl, ho, hb⟩; have HO := Lib.hid ho; have HB := Lib.hid hb; clear ho hb))
  obtain ⟨yo, yc, hys⟩ := own_slice HO.out
  subst hys
  go_wp2
  go_loopw [4, 5, 10] (fun _ _ c wr => ∃ (k : Nat) (vs : List (Ev × Value)), k ≤ n ∧ c = .int .i64 (k : Int) ∧ vs.map (·.1) = us.map (·.1) ∧ wr.ownsRow w.heap.size 30 38 (.slice yo n yc) n (evsC vs) ∧ (∀ j y, j < k → vs[j]? = some y → TypDots wr y.2 y.1.deps) ∧ (∀ j, k ≤ j → vs[j]? = us[j]?) ∧ Below w.heap.size w wr) (fun _ _ c _ => n - (intOf c).toNat)
  case atStart => exact ⟨0, us, Nat.zero_le _, rfl, rfl, HO.out, fun j y hj => absurd hj (Nat.not_lt_zero _), fun _ _ => rfl, HB.out⟩
  case round =>
    obtain ⟨k, vs, hk, rfl, hmap, hown, hlo, hhi, hb⟩ := hrel
    have HM := Lib.hid hmap
    have HW := Lib.hid hown
    have HLO := Lib.hid hlo
    have HHI := Lib.hid hhi
    have HBB := Lib.hid hb
    clear hmap hown hlo hhi hb
    by_cases hkn : k < n
    · have q0 : (k : Int) < (n : Int) := by omega
      have q1 : (k : Int) < 50000 := by omega
      obtain ⟨y, hy⟩ : ∃ y, us[k]? = some y := ⟨_, List.getElem?_eq_getElem (by have := HN.out; omega)⟩
      have HV := Lib.hid (show vs[k]? = some y by rw [HHI.out k (Nat.le_refl _)]; exact hy)
      obtain ⟨g, cap', e1, hg0, hg1⟩ := HW.out.form (by omega)
      cases e1
      have HG := Lib.hid (And.intro hg0 hg1)
      obtain ⟨dyo, dyc, hys⟩ := dots_shape (HD.out y (List.mem_of_getElem? hy)) _ rfl
      have HDY := Lib.hid (HD.out y (List.mem_of_getElem? hy))
      have HFY := Lib.hid (HF.out y (List.mem_of_getElem? hy))
      obtain ⟨ye, yv⟩ := y
      obtain ⟨yn, hyn⟩ : ∃ m, m = ye.deps.length := ⟨_, rfl⟩
      dsimp only at hys HDY HFY
      rw [← hyn] at hys
      subst hys
      have HC := Lib.hid (show ∀ j u, (evC ye (.slice dyo yn dyc))[j]? = some u → wr.cell? ((⟨g, k * 38, none⟩ : Addr).add j) = some u from fun j u hu => by
        have hj : j < 38 := by have := (Array.getElem?_eq_some_iff.1 hu).1; rwa [evC_size] at this
        rw [Addr.add_lit, HW.out.cellAt _ (by omega)]
        exact evsC_at vs k _ HV.out j u hu)
      have CV := Lib.hid (fun w hv => cloneD_any ye.deps HFY.out (.slice dyo yn dyc) w hv)
      clear hy hg0 hg1 hyn
      go_upto_region 5 with (first
        | (refine load_evA_on (by rfl) 30 (.tmp 13) rfl ⟨g, k * 38, none⟩ rfl Tryz.underlying30 evSize HC.out ?_)
        | (refine store_new rfl 30 (.tmp 5) (.tmp 14) rfl rfl wr _ (evC ye (.slice dyo yn dyc)) 30 rfl rfl rfl (by rw [evSize, evC_size]) (by rw [evC_size]; rfl) (evC_one _ _ rfl) ?_; rintro W2 hg hb hlt; have E2 := Lib.hid (show EvAt W2 wr.heap.size 30 ye (.slice dyo yn dyc) from hg); have B2 := Lib.hid hb; clear hg hb hlt))
      have c2 := (evAt_cells E2.out).2.2.1
      go_wp2_with (first
        | (go_at_call 80; refine (CV.out _ (dots_below HDY.out (below_next HBB.out B2.out))).mono ?_; rintro x w3 ⟨nv, rfl, hnv, hb⟩; have B3 := Lib.hid (below_next B2.out hb); have NV := Lib.hid hnv; obtain ⟨no, nc, hns⟩ := dots_shape hnv.1 _ rfl; subst hns; clear hb hnv)
        | (refine store_deps rfl rfl 26 (.tmp 21) (.tmp 19) rfl w.heap.size 30 g n yc k vs (own_belowM HW.out B3.out) ye _ HV.out _ (by first | rfl | omega) rfl no ye.deps.length nc rfl (by kernel_rfl) ?_; rintro w4 hown4 hs4; have O4 := Lib.hid hown4; have S4 := Lib.hid hs4; clear hown4 hs4))
      obtain ⟨-, -, cs4, hcs4⟩ := own_blockM (own_belowM HW.out B3.out) g rfl
      refine ⟨⟨k + 1, vs.set k (ye, .slice no ye.deps.length nc), by omega, by go_num, ?_, O4.out, fun j z hj hz => ?_, fun j hj => ?_, ?_⟩, by simp [intOf] <;> omega⟩
      · rw [← HM.out]
        apply List.ext_getElem?
        intro j
        rw [List.getElem?_map, List.getElem?_map, List.getElem?_set]
        split
        · rename_i h; subst h
          rw [HV.out]; simp
          exact (List.getElem?_eq_some_iff.1 HV.out).1
        · rfl
      · rw [List.getElem?_set] at hz
        split at hz
        · rename_i h; subst h
          have hlt := (List.getElem?_eq_some_iff.1 HV.out).1
          rw [if_pos hlt] at hz
          cases hz
          exact typ_solo NV.out S4.out hcs4 (by decide)
        · rename_i h
          exact typ_solo (typ_below (HLO.out j z (by omega) hz) B3.out) S4.out hcs4 (by decide)
      · rw [List.getElem?_set_ne (by omega)]
        exact HHI.out j (by omega)
      · exact solo_below (below_next HBB.out B3.out) S4.out HG.out.1
    · obtain rfl : k = n := by omega
      have q0 : ¬ (k : Int) < (k : Int) := by omega
      have HX := Lib.hid (show HasEvs wr (.slice yo k yc) (us.map (·.1)) by
        have hlen : vs.length = k := by have := congrArg List.length HM.out; rw [List.length_map, List.length_map] at this; rw [this, ← HN.out]
        rw [← HM.out]
        refine evs_of_u (holdsU_own (by rw [hlen]; exact HW.out)) (fun x hx => ?_)
        obtain ⟨j, hj, rfl⟩ := List.mem_iff_getElem.1 hx
        exact (HLO.out j _ (by omega) (List.getElem?_eq_getElem hj)).1)
      go_wp2
      go_ret
      exact ⟨_, rfl, HX.out, HBB.out⟩
end Go.Proofs.YtcdjkjadbhejpaaGreatDoor
namespace Go.Proofs.YtcdjkjadbhejpaaGreatDoor
open Go.RowKit
theorem splice_getI {cur cs : List Value} {off : Nat} (hfit : off + cs.length ≤ cur.length) (j : Nat) : (splice cur off cs)[j]? = if j < off then cur[j]? else if j < off + cs.length then cs[j - off]? else cur[j]? := by
  unfold splice
  have h1 : (cur.take off).length = off := by rw [List.length_take]; omega
  split
  · rename_i h
    rw [List.getElem?_append_left (by omega), List.getElem?_take_of_lt h]
  · rename_i h
    rw [List.getElem?_append_right (by omega), h1]
    split
    · rename_i h2
      rw [List.getElem?_append_left (by omega)]
    · rename_i h2
      rw [List.getElem?_append_right (by omega), List.getElem?_drop]
      congr 1; omega
theorem splice_len {cur cs : List Value} {off : Nat} (hfit : off + cs.length ≤ cur.length) : (splice cur off cs).length = cur.length := by
  unfold splice
  simp only [List.length_append, List.length_take, List.length_drop]; omega
theorem splice_two {cur E D : List Value} {a b : Nat} (hb : b = a + E.length) (hfit : b + D.length ≤ cur.length) : splice (splice cur a E) b D = cur.take a ++ (E ++ D) ++ cur.drop (b + D.length) := by
  apply List.ext_getElem?
  intro j
  rw [splice_getI (by rw [splice_len (by omega)]; exact hfit), splice_getI (by omega)]
  have h1 : (cur.take a).length = a := by rw [List.length_take]; omega
  by_cases c1 : j < a
  · rw [if_pos (by omega), if_pos c1, List.append_assoc, List.getElem?_append_left (by omega), List.getElem?_take_of_lt c1]
  · by_cases c2 : j < b
    · rw [if_pos c2, if_neg c1, if_pos (by omega), List.append_assoc, List.getElem?_append_right (by omega), h1, List.append_assoc, List.getElem?_append_left (by omega)]
    · by_cases c3 : j < b + D.length
      · rw [if_neg c2, if_pos c3, List.append_assoc, List.getElem?_append_right (by omega), h1, List.append_assoc, List.getElem?_append_right (by omega), List.getElem?_append_left (by omega)]
        congr 1; omega
      · rw [if_neg c2, if_neg c3, if_neg c1, if_neg (by omega), List.getElem?_append_right (by simp only [List.length_append, h1]; omega), List.getElem?_drop]
        congr 1; simp only [List.length_append, h1]; omega
theorem splice_two' {cur E D : List Value} {a b : Nat} (hb : b = a + E.length) (hfit : b + D.length ≤ cur.length) : splice (splice cur b D) a E = cur.take a ++ (E ++ D) ++ cur.drop (b + D.length) := by
  rw [← splice_two hb hfit]
  apply List.ext_getElem?
  intro j
  rw [splice_getI (by rw [splice_len hfit]; omega), splice_getI hfit, splice_getI (by rw [splice_len (by omega)]; exact hfit), splice_getI (by omega)]
  by_cases c1 : j < a
  · rw [if_pos c1, if_pos (by omega), if_pos (by omega), if_pos c1]
  · by_cases c2 : j < b
    · rw [if_neg c1, if_pos (by omega), if_pos c2, if_neg c1, if_pos (by omega)]
    · rw [if_neg c1, if_neg (by omega), if_neg c2, if_neg c2]
      split
      · rfl
      · rw [if_neg (by omega)]
theorem evsC_split (us : List (Ev × Value)) (i : Nat) : evsC us = evsC (us.take i) ++ evsC (us.drop i) := by rw [← evsC_append, List.take_append_drop]
theorem run_copy_rowK {P : Program} (w : World) (dT sT ty elem : TypeId) (size g o dLen dCap : Nat) (a : Addr) (sLen sCap : Nat) (cur : Array Value) (t : TypeId) (cs : List Value) (m : Nat)
    (hu : P.underlying dT = some (.slice elem)) (hs : (P.info? elem).map (·.size) = some size)
    (hg : w.heap[g]? = some (.cells cur t (0, 0))) (hm : m = Nat.min sLen dLen) (hn : cs.length = m * size)
    (hsrc : ∀ j v, cs[j]? = some v → w.cell? (a.add j) = some v) (hfit : o + cs.length ≤ cur.size) (h1 : ∀ v ∈ cs, v.oneCell' = true) :
    (Builtin.copy_ #[dT, sT] ty #[.slice (some ⟨g, o, none⟩) dLen dCap, .slice (some a) sLen sCap]).run P w = .ok (goInt m) (w.setRow g (splice cur.toList o cs).toArray) := by
  have hl := run_loadCells_list (P := P) w a cs hsrc
  have hst := run_storeCells_at P g o t cs 0 cur w hg (by simpa using hfit) h1
  rw [Nat.add_zero] at hst
  rw [hn] at hl
  cases hq : P.info? elem with
  | none => simp [hq] at hs
  | some i =>
    have hi : i.size = size := by simpa [hq] using hs
    simp [Builtin.copy_, run_underlying hu, Builtin.lenOf, Builtin.firstCells, sizeOf, typeInfo, hq, hi, ← hm, hl, hst, splice]
/-- What an insertion makes. -/
theorem inserted_row {w : World} {B g cap n i : Nat} {T : TypeId} {us : List (Ev × Value)} {x : Ev × Value} {c : List Value} (hn : n = us.length) (hi : i ≤ n) (hB : B ≤ g) (hcap : n + 1 ≤ cap) (hm : cap ≤ maxLen) (hlen : c.length = cap * 38)
    (hc : c.take ((n + 1) * 38) = evsC (us.take i ++ x :: us.drop i)) (hg : w.heap[g]? = some (.cells c.toArray T (0, 0))) : w.ownsRow B T 38 (.slice (some ⟨g, 0, none⟩) (n + 1) cap) (us.take i ++ x :: us.drop i).length (evsC (us.take i ++ x :: us.drop i)) := by
  have hl : (us.take i ++ x :: us.drop i).length = n + 1 := by
    simp only [List.length_append, List.length_take, List.length_cons, List.length_drop]; omega
  refine ⟨evsC_length _, .inr ⟨g, cap, c.toArray, by rw [hl], hB, hg, by rw [hl]; exact hcap, hm, by simpa using hlen, by rw [hl]; simpa using hc⟩⟩
theorem take_mid {c A M R : List Value} {k : Nat} (hc : c = A ++ M ++ R) (hk : k = A.length + M.length) : c.take k = A ++ M := by
  rw [hc, List.take_append_of_le_length (by rw [List.length_append]; omega), List.take_of_length_le (by rw [List.length_append]; omega)]
theorem ins_cells (us : List (Ev × Value)) (x : Ev × Value) (i : Nat) : evsC (us.take i ++ x :: us.drop i) = evsC (us.take i) ++ ((evC x.1 x.2).toList ++ evsC (us.drop i)) := by
  rw [evsC_append, evsC]
set_option maxRecDepth 100000 in
theorem evInfoZ : ∃ i z, Tryz.prog.info? 30 = some i ∧ i.zero = some z ∧ i.size = 38 ∧ i.bytes = 104 ∧ z.cells.size = 38 := by
  obtain ⟨i, hi, hz⟩ := infoEv
  simp only [Prod.mk.injEq] at hz
  cases hq : i.zero with
  | none => rw [hq] at hz; cases hz.1
  | some z => rw [hq] at hz; simp at hz; exact ⟨i, z, hi, hq, hz.2.1, hz.2.2, hz.1⟩
set_option maxRecDepth 100000 in
set_option maxHeartbeats 16000000 in
theorem insert_end (B : Nat) (us : List (Ev × Value)) (hl : us.length ≤ 50000) (v : Value) (n : Nat) (hn : n = us.length) (N : Nat) (e : Ev) (u : Value) (hu1 : u.oneCell' = true) (w : World) (hown : w.ownsRow B 30 38 v us.length (evsC us))
    (hN : EvAt w N 30 e u) (hB : B ≤ w.heap.size) : Calls Tryz.prog 87 #[v, .int .i64 (n : Int), .slice (some ⟨N, 0, none⟩) 1 1] w fun x w' => ∃ y, x = .returned y ∧ w'.ownsRow B 30 38 y (us ++ [(e, u)]).length (evsC (us ++ [(e, u)])) ∧ Below B w w' := by
  obtain ⟨ie, hie, hiz⟩ := infoEv
  have HIZ := Lib.hid hiz
  have HO := Lib.hid hown
  have HE := Lib.hid hN
  have HL := Lib.hid hl
  have HB := Lib.hid hB
  have HU := Lib.hid hu1
  have hn5 : (n : Int) ≤ 50000 := by omega
  have HN := Lib.hid hn
  have hbl := own_blockM hown
  have HBL := Lib.hid hbl
  rw [← hn] at hown
  rcases hown.2 with ⟨rfl, h0⟩ | ⟨g, cap, cur, rfl, hg1, hg2, hg3, hg4, -⟩
  · subst h0
    clear hiz hown hN hl hB hu1 hbl hn
    go_enter Tryz.func87, Tryz.ntmps87
    go_wp2_with (first
      | (at_builtin; refine append_evs rfl (.tmp 23) (.tmp 24) 22 rfl B 30 ie Tryz.underlying22 hie HIZ.out _ us [(e, u)] rfl HO.out (fun q hq => by rw [List.mem_singleton.1 hq]; exact HU.out) ⟨N, 0, none⟩ 1 1 rfl rfl (evAt_one HE.out) (by have := HL.out; simp only [List.length_cons, List.length_nil]; omega) HB.out ?_; rintro v' w5 hown hgr; have B5 := Lib.hid (below_grown (Below.refl B w) hgr HB.out (fun b hb => (HBL.out b hb).1)); have O5 := Lib.hid hown; clear hown hgr))
    go_ret
    exact ⟨_, rfl, O5.out, B5.out⟩
  · have HCM := Lib.hid (show cap ≤ 9223372036854775807 from hg4)
    have hnc : (n : Int) ≤ (cap : Int) := by omega
    clear hiz hown hN hl hB hu1 hbl hn hg1 hg2 hg4
    by_cases hcn : cap = n
    · subst hcn
      clear hg3 hnc
      go_enter Tryz.func87, Tryz.ntmps87
      go_wp2_with (first
        | (at_builtin; refine append_evs rfl (.tmp 23) (.tmp 24) 22 rfl B 30 ie Tryz.underlying22 hie HIZ.out _ us [(e, u)] rfl HO.out (fun q hq => by rw [List.mem_singleton.1 hq]; exact HU.out) ⟨N, 0, none⟩ 1 1 rfl rfl (evAt_one HE.out) (by have := HL.out; simp only [List.length_cons, List.length_nil]; omega) HB.out ?_; rintro v' w5 hown hgr; have B5 := Lib.hid (below_grown (Below.refl B w) hgr HB.out (fun b hb => (HBL.out b hb).1)); have O5 := Lib.hid hown; clear hown hgr))
      go_ret
      exact ⟨_, rfl, O5.out, B5.out⟩
    · have hc2 : ¬ (cap = n) := hcn
      clear hcn
      go_enter Tryz.func87, Tryz.ntmps87
      go_wp2_with (first
        | (at_builtin; refine append_evs rfl (.tmp 23) (.tmp 24) 22 rfl B 30 ie Tryz.underlying22 hie HIZ.out _ us [(e, u)] rfl HO.out (fun q hq => by rw [List.mem_singleton.1 hq]; exact HU.out) ⟨N, 0, none⟩ 1 1 rfl rfl (evAt_one HE.out) (by have := HL.out; simp only [List.length_cons, List.length_nil]; omega) HB.out ?_; rintro v' w5 hown hgr; have B5 := Lib.hid (below_grown (Below.refl B w) hgr HB.out (fun b hb => (HBL.out b hb).1)); have O5 := Lib.hid hown; clear hown hgr))
      go_ret
      exact ⟨_, rfl, O5.out, B5.out⟩
set_option maxRecDepth 100000 in
set_option maxHeartbeats 16000000 in
theorem insert_room (B : Nat) (us : List (Ev × Value)) (hl : us.length ≤ 50000) (n i g cap : Nat) (hn : n = us.length) (hi : i < n) (N : Nat) (e : Ev) (u : Value) (hu1 : u.oneCell' = true) (w : World) (hown : w.ownsRow B 30 38 (.slice (some ⟨g, 0, none⟩) n cap) n (evsC us)) (hone : ∀ x ∈ us, x.2.oneCell' = true)
    (hN : EvAt w N 30 e u) (hNB : g ≠ N) (hroom : n + 1 ≤ cap) : Calls Tryz.prog 87 #[.slice (some ⟨g, 0, none⟩) n cap, .int .i64 (i : Int), .slice (some ⟨N, 0, none⟩) 1 1] w fun x w' => ∃ y, x = .returned y ∧ w'.ownsRow B 30 38 y (us.take i ++ (e, u) :: us.drop i).length (evsC (us.take i ++ (e, u) :: us.drop i)) ∧ Below B w w' := by
  obtain ⟨g', cap', cur, hv, hg1, hg2, hg3, hg4, hg5, hg6⟩ := hown.2.resolve_left (fun h => by have := h.1; cases this)
  simp only [Value.slice.injEq, Option.some.injEq, Addr.mk.injEq, and_true, true_and] at hv
  obtain ⟨rfl, rfl⟩ := hv
  have t24 : Tryz.prog.underlying 22 = some (.slice 30) := Tryz.underlying22
  have hsz : ∀ w, (Go.sizeOf 30).run Tryz.prog w = .ok 38 w := fun w => by
    obtain ⟨ie, z, h1, -, h3, -⟩ := evInfoZ
    simp [sizeOf, typeInfo, h1, h3]
  have hov : ∀ lb cb, (callFunc 113 #[.slice (some ⟨N, 0, none⟩) 1 1, .slice (some ⟨g, (i + 1) * 38, none⟩) lb cb]).run Tryz.prog w = .ok (.value (.bool false)) w := fun lb cb => by
    rw [run_callFunc_extern Tryz.func113 (by kernel_rfl) (by kernel_rfl) (by kernel_rfl) (e := Extern.SlicesOverlaps.overlaps #[22, 22] #[4]) (by kernel_rfl),
      Lib.run_overlaps_apart w 22 4 30 t24 38 hsz ⟨N, 0, none⟩ ⟨g, (i + 1) * 38, none⟩ 1 1 lb cb (fun h => hNB h.symm) 30 30 38 (cap * 38) (by
        have h := hN; unfold EvAt at h; simp [World.shape?, h, evC_size]) (by simp [World.shape?, hg2, hg5]) (by omega) (by
        have h := hN; unfold EvAt at h; simp [World.frozen?, h]) (by
        have h := hN; unfold EvAt at h; simp [World.frozen?, h])]
    rfl
  have hdl : (evsC (us.drop i)).length = (n - i) * 38 := by rw [evsC_length, List.length_drop, hn]
  have htl : (evsC (us.take i)).length = i * 38 := by rw [evsC_length, List.length_take]; congr 1; omega
  have hel : (evC e u).toList.length = 38 := evC_len e u
  have hcl : cur.toList.length = cap * 38 := by simpa using hg5
  have hfit : (i + 1) * 38 + (evsC (us.drop i)).length ≤ cur.toList.length := by rw [hdl, hcl]; omega
  have hcur : cur.toList.take (n * 38) = evsC (us.take i) ++ evsC (us.drop i) := by rw [hg6, evsC_split us i]
  have hsrc1 : ∀ j x, (evsC (us.drop i))[j]? = some x → w.drew.cell? ((⟨g, i * 38, none⟩ : Addr).add j) = some x := fun j x hj => by
    have hjl : j < (n - i) * 38 := by have := (List.getElem?_eq_some_iff.1 hj).1; omega
    have h1 : w.cell? ⟨g, i * 38 + j, none⟩ = (evsC us)[i * 38 + j]? := hown.cellAt _ (by omega)
    rw [Addr.add_lit]
    refine h1.trans ?_
    rw [evsC_split us i, List.getElem?_append_right (by omega), htl, show i * 38 + j - i * 38 = j by omega]; exact hj
  obtain ⟨C1, hC1⟩ : ∃ C, C = (splice cur.toList ((i + 1) * 38) (evsC (us.drop i))).toArray := ⟨_, rfl⟩
  have hcp1 : ∀ ty dl sl dc sc, Nat.min sl dl = n - i → (Builtin.copy_ #[22, 22] ty #[.slice (some ⟨g, (i + 1) * 38, none⟩) dl dc, .slice (some ⟨g, i * 38, none⟩) sl sc]).run Tryz.prog w.drew = .ok (goInt ((n - i : Nat) : Int)) (w.drew.setRow g C1) := fun ty dl sl dc sc hm => by
    rw [hC1]
    exact run_copy_rowK w.drew _ _ ty 30 38 g ((i + 1) * 38) dl dc ⟨g, i * 38, none⟩ sl sc cur 30 (evsC (us.drop i)) (n - i) t24 evSize hg2 hm.symm hdl hsrc1 (by simpa using hfit) (evsC_one _ (fun x hx => hone x (List.mem_of_mem_drop hx)))
  obtain ⟨W1, hW1⟩ : ∃ W, W = w.drew.setRow g C1 := ⟨_, rfl⟩
  have hgW1 : W1.heap[g]? = some (.cells C1 30 (0, 0)) := by rw [hW1]; exact setRow_heap w.drew g cur C1 30 (0, 0) hg2
  have hs1 : Solo g w.drew W1 := by rw [hW1]; exact solo_setRow _ _ _
  have hN1 : EvAt W1 N 30 e u := (hs1.block N (fun h => hNB h.symm)).trans hN
  have hc1l : C1.toList.length = cap * 38 := by rw [hC1]; simp only []; rw [splice_len hfit, hcl]
  have hfit2 : i * 38 + (evC e u).toList.length ≤ C1.size := by
    have h : C1.size = cap * 38 := by simpa using hc1l
    rw [hel, h]; omega
  obtain ⟨C2, hC2⟩ : ∃ C, C = (splice C1.toList (i * 38) (evC e u).toList).toArray := ⟨_, rfl⟩
  have hcp2 : ∀ ty dl dc, Nat.min 1 dl = 1 → (Builtin.copy_ #[22, 22] ty #[.slice (some ⟨g, i * 38, none⟩) dl dc, .slice (some ⟨N, 0, none⟩) 1 1]).run Tryz.prog W1 = .ok (goInt 1) (W1.setRow g C2) := fun ty dl dc hm => by
    rw [hC2]
    exact run_copy_rowK W1 _ _ ty 30 38 g (i * 38) dl dc ⟨N, 0, none⟩ 1 1 C1 30 (evC e u).toList 1 t24 evSize hgW1 hm.symm hel (fun j x hj => by
      rw [Addr.add_lit, Nat.zero_add]; exact evAt_cell hN1 j x (by rwa [Array.getElem?_toList] at hj)) hfit2 (fun x hx => (Array.all_eq_true_iff_forall_mem.1 (evC_one e u hu1)) x (by simpa using hx))
  have hfin : ∀ W, W = W1.setRow g C2 → W.ownsRow B 30 38 (.slice (some ⟨g, 0, none⟩) (n + 1) cap) (us.take i ++ (e, u) :: us.drop i).length (evsC (us.take i ++ (e, u) :: us.drop i)) ∧ Below B w W := fun W hW => by
    have e2 : C2.toList = cur.toList.take (i * 38) ++ ((evC e u).toList ++ evsC (us.drop i)) ++ cur.toList.drop ((i + 1) * 38 + (evsC (us.drop i)).length) := by
      rw [hC2, hC1]; exact splice_two' (by rw [hel]; omega) hfit
    have e3 : cur.toList.take (i * 38) = evsC (us.take i) := by
      have h1 := congrArg (List.take (i * 38)) hcur
      rw [List.take_take, Nat.min_eq_left (by omega), List.take_append_of_le_length (by omega), List.take_of_length_le (l := evsC (us.take i)) (by omega)] at h1
      exact h1
    rw [e3] at e2
    have hg9 : W.heap[g]? = some (.cells C2.toList.toArray 30 (0, 0)) := by rw [hW, Array.toArray_toList]; exact setRow_heap W1 g C1 C2 _ _ hgW1
    refine ⟨inserted_row hn (by omega) hg1 hroom hg4 ?_ ?_ hg9, ?_⟩
    · rw [hC2]; simp only []; rw [splice_len (by rw [hel, hc1l]; omega), hc1l]
    · rw [ins_cells]; exact take_mid e2 (by simp only [List.length_append, htl, hel, hdl]; omega)
    · rw [hW]
      exact solo_below (solo_below (show Below B w w.drew from (drawS (Below.refl _ _)).mono (by have := hg1; have := (Array.getElem?_eq_some_iff.1 hg2).1; exact Nat.le_of_lt (by omega))) hs1 hg1) (solo_setRow _ _ _) hg1
  have HCP1 := Lib.hid hcp1
  have HCP2 := Lib.hid hcp2
  have HFIN := Lib.hid hfin
  have HCM := Lib.hid (show cap ≤ 9223372036854775807 from hg4)
  have hn5 : n ≤ 50000 := by omega
  have hz2 : ((i : Int) == (n : Int)) = false := beq_eq_false_iff_ne.2 (by omega)
  have hw1 : IntKind.i64.wrap ((i : Int) + 1) = (i : Int) + 1 := by rw [IntKind.wrap_i64]; omega
  have hw2 : IntKind.i64.wrap ((n : Int) + 1) = (n : Int) + 1 := by rw [IntKind.wrap_i64]; omega
  have hb1 : (0 : Int) ≤ (i : Int) + 1 := by omega
  have hin : i ≤ n := by omega
  have htn : ((i : Int) + 1).toNat = i + 1 := by omega
  have htn2 : ((n : Int) + 1).toNat = n + 1 := by omega
  have hb2 : ¬ (cap = i + 1) := by omega
  have hb3 : (i : Int) ≤ (n : Int) + 1 := by omega
  have hb4 : ¬ (cap = i) := by omega
  have hr1 : ¬ ((cap : Int) < (n : Int) + 1) := by omega
  have hr5 : decide ((cap : Int) < (n : Int) + 1) = false := decide_eq_false hr1
  have hr2 : (n : Int) + 1 ≤ (cap : Int) := by omega
  have hr3 : (i : Int) + 1 ≤ (n : Int) + 1 := by omega
  have hr4 : n + 1 ≤ cap := hroom
  have HIN := Lib.hid hi
  have HW1 := Lib.hid hW1
  clear hl hone hown hN hu1 hg1 hg2 hg3 hg4 hg5 hg6 hdl htl hel hcl hfit hcur hsrc1 hcp1 hcp2 hfin hgW1 hs1 hN1 hc1l hC1 hC2 hn hsz hroom hi hfit2 hW1
  go_enter Tryz.func87, Tryz.ntmps87
  go_upto_region 15 with (simp only [hov])
  have hm1 : ∀ a b, a = n + 1 - i → b = n + 1 - (i + 1) → Nat.min a b = n - i := fun a b ha hb => by have := HIN.out; rw [ha, hb]; simp only [Nat.min_def]; split <;> omega
  have HM1 := Lib.hid hm1
  clear hm1
  refine wp_region_held_drew (S := fun _ => True) (by kernel_rfl) trivial (fun hHeld => ?_)
  refine take_at (i := 0) 69 rfl rfl (by kernel_rfl) (by kernel_rfl) (by kernel_rfl) (fun _ _ _ h => h) (sure_yes (by rfl) (fun w => by go_simp; try with_reducible rfl)) hHeld ?_
  simp only [List.setIfInBounds_toArray, List.set_cons_zero, List.set_cons_succ]
  refine take_at (i := 1) 70 rfl rfl (by kernel_rfl) (by kernel_rfl) (by kernel_rfl) (fun _ _ _ h => h) (sure_yes (by rfl) (fun w => by go_simp; try with_reducible rfl)) hHeld ?_
  simp only [List.setIfInBounds_toArray, List.set_cons_zero, List.set_cons_succ]
  refine take_at (i := 2) 71 rfl rfl (by kernel_rfl) (by kernel_rfl) (by kernel_rfl) (fun _ _ _ h => h) (sure_yes (by rfl) (fun w => by go_simp; try with_reducible rfl)) hHeld ?_
  simp only [List.setIfInBounds_toArray, List.set_cons_zero, List.set_cons_succ]
  refine take_at (i := 3) 72 rfl rfl (by kernel_rfl) (by kernel_rfl) (by kernel_rfl) (fun _ _ _ h => h) (sure_yes (by rfl) (fun w => by go_simp; try with_reducible rfl)) hHeld ?_
  simp only [List.setIfInBounds_toArray, List.set_cons_zero, List.set_cons_succ]
  refine take_at (i := 4) 73 rfl rfl (by kernel_rfl) (by kernel_rfl) (by kernel_rfl) (fun _ _ _ h => h) (sure_yes (by rfl) (fun w => by go_simp; try with_reducible rfl)) hHeld ?_
  simp only [List.setIfInBounds_toArray, List.set_cons_zero, List.set_cons_succ]
  refine take_at (i := 5) 74 rfl rfl (by kernel_rfl) (by kernel_rfl) (by kernel_rfl) (fun _ _ _ h => h) (sure_yes (by rfl) (fun w => by go_simp; try with_reducible rfl)) hHeld ?_
  simp only [List.setIfInBounds_toArray, List.set_cons_zero, List.set_cons_succ]
  refine take_at (i := 6) 75 rfl rfl (by kernel_rfl) (by kernel_rfl) (by kernel_rfl) (fun _ _ _ h => h) (sure_yes (by rfl) (fun w => by go_simp; try with_reducible rfl)) hHeld ?_
  simp only [List.setIfInBounds_toArray, List.set_cons_zero, List.set_cons_succ]
  refine take_at (i := 7) 76 rfl rfl (by kernel_rfl) (by kernel_rfl) (by kernel_rfl) (fun _ _ _ h => h) (sure_yes (by rfl) (fun w => by go_simp; try with_reducible rfl)) hHeld ?_
  simp only [List.setIfInBounds_toArray, List.set_cons_zero, List.set_cons_succ]
  refine wpAnyH_ready (rs := [8]) (by kernel_rfl) (by simp) ?_
  refine AllReadyH.cons rfl (fun CONT hCONT => ?_) AllReadyH.nil
  rw [if_pos (by rfl)]
  refine wp_copy_runI _ (.tmp 73) (.tmp 76) 22 22 rfl _ _ rfl rfl (HCP1.out _ _ _ _ _ (HM1.out _ _ (by first | rfl | omega) (by first | rfl | omega))) ?_
  refine hCONT.out _ _ trivial (fun hHeld => ?_)
  clear hCONT CONT
  refine wpAnyH_done (by kernel_rfl) ?_ _
  go_wp2_with (refine wpList_copy_runI _ rfl _ _ 22 22 rfl _ _ rfl rfl (by rw [← HW1.out]; exact HCP2.out _ _ _ (by have := HIN.out; simp only [Nat.min_def]; split <;> omega)) ?_)
  go_ret
  obtain ⟨h1, h2⟩ := HFIN.out _ rfl
  exact ⟨_, rfl, by simpa using h1, h2⟩
set_option maxRecDepth 100000 in
set_option maxHeartbeats 16000000 in
theorem insert_grow (B : Nat) (us : List (Ev × Value)) (hl : us.length ≤ 50000) (n i g cap : Nat) (hn : n = us.length) (hi : i < n) (N : Nat) (e : Ev) (u : Value) (hu1 : u.oneCell' = true) (w : World) (hown : w.ownsRow B 30 38 (.slice (some ⟨g, 0, none⟩) n cap) n (evsC us)) (hone : ∀ x ∈ us, x.2.oneCell' = true)
    (hN : EvAt w N 30 e u) (hB : B ≤ w.heap.size) (hroom : ¬ n + 1 ≤ cap) : Calls Tryz.prog 87 #[.slice (some ⟨g, 0, none⟩) n cap, .int .i64 (i : Int), .slice (some ⟨N, 0, none⟩) 1 1] w fun x w' => ∃ y, x = .returned y ∧ w'.ownsRow B 30 38 y (us.take i ++ (e, u) :: us.drop i).length (evsC (us.take i ++ (e, u) :: us.drop i)) ∧ Below B w w' := by
  obtain ⟨g', cap', cur, hv, hg1, hg2, hg3, hg4, hg5, hg6⟩ := hown.2.resolve_left (fun h => by have := h.1; cases this)
  simp only [Value.slice.injEq, Option.some.injEq, Addr.mk.injEq, and_true, true_and] at hv
  obtain ⟨rfl, rfl⟩ := hv
  obtain rfl : cap = n := by omega
  obtain ⟨ie, z, hi0, hz0, hzs, hzb, hzz⟩ := evInfoZ
  have t24 : Tryz.prog.underlying 22 = some (.slice 30) := Tryz.underlying22
  have hdl : (evsC (us.drop i)).length = (cap - i) * 38 := by rw [evsC_length, List.length_drop, hn]
  have htl : (evsC (us.take i)).length = i * 38 := by rw [evsC_length, List.length_take]; congr 1; omega
  have hel : (evC e u).toList.length = 38 := evC_len e u
  have hbw : g < w.heap.size := (Array.getElem?_eq_some_iff.1 hg2).1
  have hvw : N < w.heap.size := (Array.getElem?_eq_some_iff.1 hN).1
  have hcellT : ∀ j x, (evsC (us.take i))[j]? = some x → w.cell? ⟨g, j, none⟩ = some x := fun j x hj => by
    have hjl : j < i * 38 := by have := (List.getElem?_eq_some_iff.1 hj).1; omega
    rw [hown.cellAt j (by omega), evsC_split us i, List.getElem?_append_left (by omega)]; exact hj
  have hcellD : ∀ j x, (evsC (us.drop i))[j]? = some x → w.cell? ⟨g, i * 38 + j, none⟩ = some x := fun j x hj => by
    have hjl : j < (cap - i) * 38 := by have := (List.getElem?_eq_some_iff.1 hj).1; omega
    rw [hown.cellAt _ (by omega), evsC_split us i, List.getElem?_append_right (by omega), htl, show i * 38 + j - i * 38 = j by omega]; exact hj
  have hold : (Builtin.firstCells ie.size i (.slice (some ⟨g, 0, none⟩) i cap)).run Tryz.prog w.drew = .ok (evsC (us.take i)).toArray w.drew := by
    rw [hzs]
    exact run_firstCells_some w.drew 38 i ⟨g, 0, none⟩ i cap (evsC (us.take i)) htl (fun j x hj => by rw [Addr.add_lit, Nat.zero_add]; exact hcellT j x hj)
  have hik : i + (cap + 1 - i) = cap + 1 := by omega
  obtain ⟨G, hG⟩ : ∃ G, G = grownCap w (cap + 1) cap 30 := ⟨_, rfl⟩
  have hGn : cap + 1 ≤ G := by rw [hG]; exact grownCap_ge w _ _ _
  have hGm : G ≤ maxLen := by rw [hG]; exact grownCap_le_maxLen w _ _ _ (by unfold maxLen; omega)
  obtain ⟨C0, hC0⟩ : ∃ C, C = (evsC (us.take i)).toArray ++ Builtin.zeroCells z.cells (cap + 1 - i) ++ Builtin.zeroCells z.cells (G - (cap + 1)) := ⟨_, rfl⟩
  have hap : ∀ ty, (Builtin.append_ #[22, 3] ty #[.slice (some ⟨g, 0, none⟩) i cap, .int .i64 ((cap : Int) + 1 - (i : Int))]).run Tryz.prog w = .ok (.slice (some ⟨w.heap.size, 0, none⟩) (cap + 1) G) (w.drew.alloc (.cells C0 30)) := fun ty => by
    have h := Lib.run_append_grow_zeros w 22 3 ty 30 ie z .i64 .i64 t24 Tryz.underlying3 hi0 hz0 (some ⟨g, 0, none⟩) i cap (evsC (us.take i)) hold (cap + 1 - i) (by omega) (by omega) (by omega) (by omega) (by rw [hzb]; omega) (by rw [hzb, hik]; exact growslice_fits (by omega) (by omega))
    rw [hik, ← hG, ← hC0] at h
    rw [show (cap : Int) + 1 - (i : Int) = ((cap + 1 - i : Nat) : Int) by omega]
    exact h
  have hzl : ∀ k, (Builtin.zeroCells z.cells k).size = k * 38 := fun k => by simp [Builtin.zeroCells, hzz]
  have hc0l : C0.toList.length = G * 38 := by
    rw [hC0]; simp only [Array.toList_append, List.length_append, Array.length_toList, hzl, htl]; omega
  have htake0 : C0.toList.take (i * 38) = evsC (us.take i) := by
    have h0 : C0.toList = evsC (us.take i) ++ ((Builtin.zeroCells z.cells (cap + 1 - i)).toList ++ (Builtin.zeroCells z.cells (G - (cap + 1))).toList) := by rw [hC0]; simp
    rw [h0, List.take_append_of_le_length (by omega), List.take_of_length_le (by omega)]
  obtain ⟨W1, hW1⟩ : ∃ W, W = w.drew.alloc (.cells C0 30) := ⟨_, rfl⟩
  have hgW1 : W1.heap[w.heap.size]? = some (.cells C0 30 (0, 0)) := by rw [hW1]; exact heap_last w.drew _
  have hb1 : Below w.heap.size w W1 := by rw [hW1]; exact (drawS (Below.refl _ _)).alloc (Nat.le_refl _) _
  have hN1 : EvAt W1 N 30 e u := evAt_kept hN hb1
  obtain ⟨C1, hC1⟩ : ∃ C, C = (splice C0.toList (i * 38) (evC e u).toList).toArray := ⟨_, rfl⟩
  have hf1 : i * 38 + (evC e u).toList.length ≤ C0.size := by
    have h : C0.size = G * 38 := by simpa using hc0l
    rw [hel, h]; omega
  have hcpA : ∀ ty dl dc, Nat.min 1 dl = 1 → (Builtin.copy_ #[22, 22] ty #[.slice (some ⟨w.heap.size, i * 38, none⟩) dl dc, .slice (some ⟨N, 0, none⟩) 1 1]).run Tryz.prog W1 = .ok (goInt 1) (W1.setRow w.heap.size C1) := fun ty dl dc hm => by
    rw [hC1]
    exact run_copy_rowK W1 _ _ ty 30 38 w.heap.size (i * 38) dl dc ⟨N, 0, none⟩ 1 1 C0 30 (evC e u).toList 1 t24 evSize hgW1 hm.symm hel (fun j x hj => by
      rw [Addr.add_lit, Nat.zero_add]; exact evAt_cell hN1 j x (by rwa [Array.getElem?_toList] at hj)) hf1 (fun x hx => (Array.all_eq_true_iff_forall_mem.1 (evC_one e u hu1)) x (by simpa using hx))
  obtain ⟨W2, hW2⟩ : ∃ W, W = (W1.setRow w.heap.size C1).drew := ⟨_, rfl⟩
  have hgW2 : W2.heap[w.heap.size]? = some (.cells C1 30 (0, 0)) := by rw [hW2]; exact setRow_heap W1 w.heap.size C0 C1 30 (0, 0) hgW1
  have hs1 : Solo w.heap.size W1 (W1.setRow w.heap.size C1) := solo_setRow _ _ _
  have hb2 : Below w.heap.size w W2 := by
    rw [hW2]; exact drawS (solo_below hb1 hs1 (Nat.le_refl _))
  have hc1l : C1.toList.length = G * 38 := by
    have h : i * 38 + (evC e u).toList.length ≤ C0.toList.length := by simpa using hf1
    rw [hC1]; simp only []; rw [splice_len h, hc0l]
  have hf2 : (i + 1) * 38 + (evsC (us.drop i)).length ≤ C1.size := by
    have h : C1.size = G * 38 := by simpa using hc1l
    rw [hdl, h]; omega
  obtain ⟨C2, hC2⟩ : ∃ C, C = (splice C1.toList ((i + 1) * 38) (evsC (us.drop i))).toArray := ⟨_, rfl⟩
  have hcpB : ∀ ty dl sl dc sc, Nat.min sl dl = cap - i → (Builtin.copy_ #[22, 22] ty #[.slice (some ⟨w.heap.size, (i + 1) * 38, none⟩) dl dc, .slice (some ⟨g, i * 38, none⟩) sl sc]).run Tryz.prog W2 = .ok (goInt ((cap - i : Nat) : Int)) (W2.setRow w.heap.size C2) := fun ty dl sl dc sc hm => by
    rw [hC2]
    exact run_copy_rowK W2 _ _ ty 30 38 w.heap.size ((i + 1) * 38) dl dc ⟨g, i * 38, none⟩ sl sc C1 30 (evsC (us.drop i)) (cap - i) t24 evSize hgW2 hm.symm hdl (fun j x hj => by
      rw [Addr.add_lit]
      exact (World.cell?_of_block (hb2.block g hbw)).trans (hcellD j x hj)) hf2 (evsC_one _ (fun x hx => hone x (List.mem_of_mem_drop hx)))
  have hfin : (W2.setRow w.heap.size C2).ownsRow B 30 38 (.slice (some ⟨w.heap.size, 0, none⟩) (cap + 1) G) (us.take i ++ (e, u) :: us.drop i).length (evsC (us.take i ++ (e, u) :: us.drop i)) ∧ Below B w (W2.setRow w.heap.size C2) := by
    have e2 : C2.toList = C0.toList.take (i * 38) ++ ((evC e u).toList ++ evsC (us.drop i)) ++ C0.toList.drop ((i + 1) * 38 + (evsC (us.drop i)).length) := by
      rw [hC2, hC1]; exact splice_two (by rw [hel]; omega) (by rw [hc0l, hdl]; omega)
    rw [htake0] at e2
    refine ⟨inserted_row hn (by omega) hB hGn hGm ?_ ?_ (by rw [Array.toArray_toList]; exact setRow_heap W2 w.heap.size C1 C2 _ _ hgW2), ?_⟩
    · have h : (i + 1) * 38 + (evsC (us.drop i)).length ≤ C1.toList.length := by simpa using hf2
      rw [hC2]; simp only []; rw [splice_len h, hc1l]
    · rw [ins_cells]; exact take_mid e2 (by simp only [List.length_append, htl, hel, hdl]; omega)
    · exact (solo_below hb2 (solo_setRow W2 w.heap.size C2) (Nat.le_refl _)).mono hB
  have HAP := Lib.hid hap
  have HCPA := Lib.hid hcpA
  have HCPB := Lib.hid hcpB
  have HFIN := Lib.hid hfin
  have HW1 := Lib.hid hW1
  have HW2 := Lib.hid hW2
  have HCM := Lib.hid (show G ≤ 9223372036854775807 from hGm)
  have hn5 : cap ≤ 50000 := by omega
  have hz2 : ((i : Int) == (cap : Int)) = false := beq_eq_false_iff_ne.2 (by omega)
  have hw1 : IntKind.i64.wrap ((i : Int) + 1) = (i : Int) + 1 := by rw [IntKind.wrap_i64]; omega
  have hw2 : IntKind.i64.wrap ((cap : Int) + 1) = (cap : Int) + 1 := by rw [IntKind.wrap_i64]; omega
  have hw3 : IntKind.i64.wrap ((cap : Int) + 1 - (i : Int)) = (cap : Int) + 1 - (i : Int) := by rw [IntKind.wrap_i64]; omega
  have hb1' : (0 : Int) ≤ (i : Int) + 1 := by omega
  have hin : i ≤ cap := by omega
  have htn : ((i : Int) + 1).toNat = i + 1 := by omega
  have hq1 : ¬ (G = i + 1) := by omega
  have hq2 : ¬ (G = i) := by omega
  have hq3 : ¬ (cap = i) := by omega
  have hq4 : (i : Int) ≤ (cap : Int) + 1 := by omega
  have hq5 : (i : Int) + 1 ≤ (cap : Int) + 1 := by omega
  have hq6 : cap + 1 ≤ G := hGn
  have hr5 : decide ((cap : Int) < (cap : Int) + 1) = true := decide_eq_true (by omega)
  have HIN := Lib.hid hi
  clear hl hone hown hN hu1 hg1 hg2 hg3 hg4 hg5 hg6 hdl htl hel hbw hvw hcellT hcellD hold hik hG hGn hGm hC0 hap hzl hc0l htake0 hgW1 hb1 hN1 hC1 hf1 hcpA hgW2 hs1 hb2 hc1l hf2 hC2 hcpB hfin hn hi0 hz0 hzs hzb hzz hroom hi hB hW1 hW2
  go_enter Tryz.func87, Tryz.ntmps87
  go_upto_region 9 with fail
  go_upto_region 10 with (at_builtin; refine Lib.wpList_append_run _ rfl _ _ _ _ rfl _ _ rfl rfl _ _ (HAP.out _) ?_; rw [← HW1.out])
  go_upto_region 11 with (refine wpList_copy_runI _ rfl _ _ 22 22 rfl _ _ rfl rfl (HCPA.out _ _ _ (by have := HIN.out; simp only [Nat.min_def]; split <;> omega)) ?_)
  refine wp_region_held_drew (S := fun _ => True) (by kernel_rfl) trivial (fun hHeld => ?_)
  rw [← HW2.out]
  have hm1 : ∀ a b, a = cap - i → b = cap + 1 - (i + 1) → Nat.min a b = cap - i := fun a b ha hb => by have := HIN.out; rw [ha, hb]; simp only [Nat.min_def]; split <;> omega
  have HM1 := Lib.hid hm1
  clear hm1
  refine take_at (i := 0) 46 rfl rfl (by kernel_rfl) (by kernel_rfl) (by kernel_rfl) (fun _ _ _ h => h) (sure_yes (by rfl) (fun w => by go_simp; try with_reducible rfl)) hHeld ?_
  simp only [List.setIfInBounds_toArray, List.set_cons_zero, List.set_cons_succ]
  refine take_at (i := 1) 47 rfl rfl (by kernel_rfl) (by kernel_rfl) (by kernel_rfl) (fun _ _ _ h => h) (sure_yes (by rfl) (fun w => by go_simp; try with_reducible rfl)) hHeld ?_
  simp only [List.setIfInBounds_toArray, List.set_cons_zero, List.set_cons_succ]
  refine take_at (i := 2) 48 rfl rfl (by kernel_rfl) (by kernel_rfl) (by kernel_rfl) (fun _ _ _ h => h) (sure_yes (by rfl) (fun w => by go_simp; try with_reducible rfl)) hHeld ?_
  simp only [List.setIfInBounds_toArray, List.set_cons_zero, List.set_cons_succ]
  refine take_at (i := 3) 49 rfl rfl (by kernel_rfl) (by kernel_rfl) (by kernel_rfl) (fun _ _ _ h => h) (sure_yes (by rfl) (fun w => by go_simp; try with_reducible rfl)) hHeld ?_
  simp only [List.setIfInBounds_toArray, List.set_cons_zero, List.set_cons_succ]
  refine take_at (i := 4) 50 rfl rfl (by kernel_rfl) (by kernel_rfl) (by kernel_rfl) (fun _ _ _ h => h) (sure_yes (by rfl) (fun w => by go_simp; try with_reducible rfl)) hHeld ?_
  simp only [List.setIfInBounds_toArray, List.set_cons_zero, List.set_cons_succ]
  refine take_at (i := 5) 51 rfl rfl (by kernel_rfl) (by kernel_rfl) (by kernel_rfl) (fun _ _ _ h => h) (sure_yes (by rfl) (fun w => by go_simp; try with_reducible rfl)) hHeld ?_
  simp only [List.setIfInBounds_toArray, List.set_cons_zero, List.set_cons_succ]
  refine take_at (i := 6) 52 rfl rfl (by kernel_rfl) (by kernel_rfl) (by kernel_rfl) (fun _ _ _ h => h) (sure_yes (by rfl) (fun w => by go_simp; try with_reducible rfl)) hHeld ?_
  simp only [List.setIfInBounds_toArray, List.set_cons_zero, List.set_cons_succ]
  refine take_at (i := 7) 53 rfl rfl (by kernel_rfl) (by kernel_rfl) (by kernel_rfl) (fun _ _ _ h => h) (sure_yes (by rfl) (fun w => by go_simp; try with_reducible rfl)) hHeld ?_
  simp only [List.setIfInBounds_toArray, List.set_cons_zero, List.set_cons_succ]
  refine wpAnyH_ready (rs := [8]) (by kernel_rfl) (by simp) ?_
  refine AllReadyH.cons rfl (fun CONT hCONT => ?_) AllReadyH.nil
  rw [if_pos (by rfl)]
  refine wp_copy_runI _ (.tmp 50) (.tmp 53) 22 22 rfl _ _ rfl rfl (HCPB.out _ _ _ _ _ (HM1.out _ _ (by first | rfl | omega) (by first | rfl | omega))) ?_
  refine hCONT.out _ _ trivial (fun hHeld => ?_)
  clear hCONT CONT
  refine wpAnyH_done (by kernel_rfl) ?_ _
  go_wp2
  go_ret
  obtain ⟨h1, h2⟩ := HFIN.out
  exact ⟨_, rfl, by simpa using h1, h2⟩
theorem insert_any (B : Nat) (us : List (Ev × Value)) (hl : us.length ≤ 50000) (v : Value) (i : Nat) (hi : i ≤ us.length) (N : Nat) (e : Ev) (u : Value) (hu1 : u.oneCell' = true) (w : World) (hown : w.ownsRow B 30 38 v us.length (evsC us)) (hone : ∀ x ∈ us, x.2.oneCell' = true)
    (hN : EvAt w N 30 e u) (hNB : ∀ b, v.ownBlock = some b → b ≠ N) (hB : B ≤ w.heap.size) : Calls Tryz.prog 87 #[v, .int .i64 (i : Int), .slice (some ⟨N, 0, none⟩) 1 1] w fun x w' => ∃ y, x = .returned y ∧ w'.ownsRow B 30 38 y (us.take i ++ (e, u) :: us.drop i).length (evsC (us.take i ++ (e, u) :: us.drop i)) ∧ Below B w w' := by
  by_cases hin : i = us.length
  · have h := insert_end B us hl v us.length rfl N e u hu1 w hown hN hB
    rw [hin, List.take_length, List.drop_length]; exact h
  · obtain ⟨g, cap, rfl, h1, h2⟩ := hown.form (show 0 < us.length by omega)
    by_cases hroom : us.length + 1 ≤ cap
    · exact insert_room B us hl us.length i g cap rfl (by omega) N e u hu1 w hown hone hN (hNB g rfl) hroom
    · exact insert_grow B us hl us.length i g cap rfl (by omega) N e u hu1 w hown hone hN hB hroom
end Go.Proofs.YtcdjkjadbhejpaaGreatDoor
namespace Go.Proofs.YtcdjkjadbhejpaaGreatDoor
open Go.RowKit
theorem own_mono {w : World} {base base' : Nat} {e : TypeId} {size : Nat} {v : Value} {n : Nat} {xs : List Value} (h : w.ownsRow base e size v n xs) (hb : base' ≤ base) : w.ownsRow base' e size v n xs := by
  refine ⟨h.1, ?_⟩
  rcases h.2 with h0 | ⟨b, cap, cur, rfl, h1, rest⟩
  · exact .inl h0
  · exact .inr ⟨b, cap, cur, rfl, Nat.le_trans hb h1, rest⟩
theorem map_filter_fst (us : List (Ev × Value)) (p : Ev → Bool) : (us.filter fun z => p z.1).map (·.1) = (us.map (·.1)).filter p := by
  induction us with
  | nil => rfl
  | cons x t ih => rw [List.filter_cons, List.map_cons, List.filter_cons]; cases p x.1 <;> simp [ih]
theorem place_idx (l : List Ev) (e : Ev) : (idxP (aboveE e) l = (placeE l e : Int) ∧ 0 ≤ idxP (aboveE e) l) ∨ (idxP (aboveE e) l = -1 ∧ placeE l e = l.length) := by
  unfold idxP placeE
  cases h : l.any (aboveE e) with
  | true => exact .inl ⟨by rw [if_pos rfl], by rw [if_pos rfl]; omega⟩
  | false =>
    refine .inr ⟨by simp, ?_⟩
    rw [List.findIdx_eq_length]
    intro x hx
    have := List.any_eq_false.1 h x hx
    simpa using this
theorem place_le (l : List Ev) (e : Ev) : placeE l e ≤ l.length := List.findIdx_le_length
theorem ins_map (fs : List (Ev × Value)) (e : Ev) (u : Value) (p : Nat) (hp : p = placeE (fs.map (·.1)) e) : (fs.take p ++ (e, u) :: fs.drop p).map (·.1) = insE (fs.map (·.1)) e := by
  rw [insE_place, ← hp, List.map_append, List.map_cons, List.map_take, List.map_drop]
set_option maxRecDepth 100000 in
set_option maxHeartbeats 16000000 in
theorem added_any (us : List (Ev × Value)) (hl : us.length ≤ 40000) (hf : FitU us) (e : Ev) (hfe : FitE e) (v u : Value) (w : World) (hv : HoldsU w v us) (hd : DepsU w us) (hu : HasDots w u e.deps) : Calls Tryz.prog 44 #[v, .agg (evC e u)] w fun x w' => ∃ y us', x = .returned y ∧ us'.map (·.1) = addE (us.map (·.1)) e ∧ (∀ z ∈ us', z ∈ us ∨ z = (e, u)) ∧ (y = v ∧ us' = us ∨ w'.ownsRow w.heap.size 30 38 y us'.length (evsC us')) ∧ HoldsU w' y us' ∧ Below w.heap.size w w' := by
  have E0 := Lib.hid (box_ev w 30 e u)
  have B0 := Lib.hid ((Below.refl w.heap.size w).alloc (Nat.le_refl _) (.cells (evC e u) 30 (0, 0)))
  have HV := Lib.hid hv
  have HD := Lib.hid hd
  have HU := Lib.hid hu
  have HF := Lib.hid hf
  have HFE := Lib.hid hfe
  have HL := Lib.hid hl
  obtain ⟨n, hn⟩ : ∃ n, n = us.length := ⟨_, rfl⟩
  obtain ⟨vo, vc, hvs⟩ := holdsU_shape hv n hn
  obtain ⟨uo, uc, hus⟩ := dots_shape hu _ rfl
  obtain ⟨un, hun⟩ : ∃ m, m = e.deps.length := ⟨_, rfl⟩
  rw [← hun] at hus
  subst hvs
  subst hus
  have e1 : ∀ args w, (callFunc 82 args).run Tryz.prog w = .ok (.enter 82 args) w := (enters_of Tryz.func82 (by kernel_rfl) rfl)
  have e2 : ∀ args w, (callFunc 84 args).run Tryz.prog w = .ok (.enter 84 args) w := (enters_of Tryz.func84 (by kernel_rfl) rfl)
  have e3 : ∀ args w, (callFunc 86 args).run Tryz.prog w = .ok (.enter 86 args) w := (enters_of Tryz.func86 (by kernel_rfl) rfl)
  clear hv hd hu hf hfe hl hn hun
  go_enter Tryz.func44, Tryz.ntmps44
  go_upto_region 1 with fail
  generalize w.alloc (.cells (evC e (.slice uo un uc)) 30 (0, 0)) = W0 at *
  have T1 := Lib.hid (show Tells 82 #[.pointer (some ⟨w.heap.size, 0, none⟩)] (hitE e) us W0 from fun x hx W hW => by
    show Calls _ _ #[_, _] _ _
    exact hit_any e x.1 (HF.out x hx).2.2.1 _ x.2 w.heap.size W (evAt_kept E0.out hW) (dots_below (HD.out x hx) (below_next B0.out hW)))
  have T2 := Lib.hid (show Tells 84 #[.pointer (some ⟨w.heap.size, 0, none⟩)] (outE e) us W0 from fun x hx W hW => by
    show Calls _ _ #[_, _] _ _
    exact out_any e x.1 HFE.out.2.2.1 _ x.2 w.heap.size W (evAt_kept E0.out hW) (dots_below HU.out (below_next B0.out hW)))
  have T3 := Lib.hid (show ∀ fs : List (Ev × Value), (∀ x ∈ fs, x ∈ us) → Tells 86 #[.pointer (some ⟨w.heap.size, 0, none⟩)] (aboveE e) fs W0 from fun fs hfs x hx W hW => by
    show Calls _ _ #[_, _] _ _
    have h := HF.out x (hfs x hx)
    exact above_any e x.1 HFE.out.1 HFE.out.2.1 h.1 h.2.1 _ x.2 w.heap.size W (evAt_kept E0.out hW))
  have CF := Lib.hid (contains_any 82 #[.pointer (some ⟨w.heap.size, 0, none⟩)] e1 (hitE e) us (Nat.le_trans HL.out (by decide)) (.slice vo n vc) W0 (holdsU_below HV.out B0.out) T1.out)
  cases hh : (us.map (·.1)).any (hitE e) with
  | true =>
    have HR := Lib.hid (addE_hit hh)
    rw [hh] at CF
    clear hh
    go_wp2_with (first
      | (go_at_call 81; refine CF.out.mono ?_; rintro x w1 ⟨rfl, hb⟩; have B1 := Lib.hid (below_next B0.out hb); clear hb))
    go_ret
    exact ⟨_, us, rfl, HR.out.symm, fun z hz => .inl hz, .inl ⟨rfl, rfl⟩, holdsU_below HV.out B1.out, B1.out⟩
  | false =>
    have HR := Lib.hid (addE_no hh)
    rw [hh] at CF
    clear hh
    go_upto_region 3 with (first
      | (go_at_call 81; refine CF.out.mono ?_; rintro x w1 ⟨rfl, hb⟩; have B1 := Lib.hid (below_next B0.out hb); have C1 := Lib.hid hb; clear hb))
    have WO := Lib.hid (without_any 84 #[.pointer (some ⟨w.heap.size, 0, none⟩)] e2 (outE e) us (Nat.le_trans HL.out (by decide)) (.slice vo n vc) w1 (holdsU_below HV.out B1.out) (depsU_below HD.out B1.out) (tells_below T2.out C1.out))
    have HMF := Lib.hid (map_filter_fst us (fun z => !outE e z))
    have HSUB := Lib.hid (show ∀ x ∈ us.filter (fun z => !outE e z.1), x ∈ us from fun x hx => (List.mem_filter.1 hx).1)
    have HFL := Lib.hid (show (us.filter (fun z => !outE e z.1)).length ≤ 40000 from Nat.le_trans (List.length_filter_le _ _) HL.out)
    generalize us.filter (fun z => !outE e z.1) = fs at WO HMF HSUB HFL
    go_upto_region 4 with (first
      | (go_at_call 83; refine WO.out.mono ?_; rintro x w2 ⟨y, rfl, ho, hb⟩; have B2 := Lib.hid (below_next B1.out hb); have C2 := Lib.hid (below_next C1.out hb); have O2 := Lib.hid (own_mono ho B1.out.size); clear ho hb))
    have IXF := Lib.hid (fun v hv => index_any 86 #[.pointer (some ⟨w.heap.size, 0, none⟩)] e3 (aboveE e) fs (Nat.le_trans HFL.out (by decide)) v w2 hv (tells_below (T3.out fs HSUB.out) C2.out))
    obtain ⟨yo, yc, hys⟩ := own_slice O2.out
    subst hys
    have HPL := Lib.hid (place_idx (fs.map (·.1)) e)
    have HPE := Lib.hid (place_le (fs.map (·.1)) e)
    have HIM := Lib.hid (fun p hp => ins_map fs e (.slice uo un uc) p hp)
    have HONE := Lib.hid (show ∀ x ∈ fs, x.2.oneCell' = true from fun x hx => depsU_one HD.out x (HSUB.out x hx))
    have hfn5 : fs.length ≤ 40000 := HFL.out
    obtain ⟨p, hp⟩ : ∃ p, p = placeE (fs.map (·.1)) e := ⟨_, rfl⟩
    obtain ⟨r, hr⟩ : ∃ r, r = idxP (aboveE e) (fs.map (·.1)) := ⟨_, rfl⟩
    rw [← hp, ← hr] at HPL
    rw [← hp] at HPE
    rw [← hr] at IXF
    have HPP := Lib.hid hp
    have HFM := Lib.hid (show (fs.map (·.1)).length = fs.length by rw [List.length_map])
    clear hp hr
    have hcase : (r = (p : Int) ∧ 0 ≤ r) ∨ (r = -1 ∧ p = fs.length) := by rw [← HFM.out]; exact HPL.out
    have hple : p ≤ fs.length := by rw [← HFM.out]; exact HPE.out
    rcases hcase with ⟨rfl, h0⟩ | ⟨rfl, rfl⟩
    · have hd0 : decide ((p : Int) < 0) = false := decide_eq_false (by omega)
      clear h0
      go_upto_region 7 with (first
        | (go_at_call 85; refine (IXF.out _ (holdsU_own O2.out)).mono ?_; rintro x w3 ⟨rfl, hb⟩; have B3 := Lib.hid (below_next B2.out hb); have C3 := Lib.hid (below_next C2.out hb); have O3 := Lib.hid (own_belowM O2.out hb); clear hb))
      have E3 := Lib.hid (evAt_kept E0.out C3.out)
      obtain ⟨N9, hN9⟩ : ∃ N, w3.heap.size = N := ⟨_, rfl⟩
      have HN9 := Lib.hid hN9
      have HOB := Lib.hid (own_blockM O3.out)
      clear hN9
      go_wp2_with (first
        | (refine load_ev_on (by rfl) 30 (.tmp 3) rfl w.heap.size rfl E3.out Tryz.underlying30 evSize ?_)
        | (refine build_evM rfl 24 rfl (.tmp 23) rfl N9 HN9.out e uo un uc rfl ?_; rintro wA hEA hBA hNA; have EA := Lib.hid hEA; have BA := Lib.hid (below_next B3.out hBA); have OA := Lib.hid (own_belowM O3.out hBA); clear hEA hBA hNA)
        | (go_at_call 87; refine (insert_any w.heap.size fs (Nat.le_trans HFL.out (by decide)) _ p (by omega) N9 e (.slice uo un uc) rfl wA OA.out HONE.out EA.out (fun b hb => by have := (HOB.out b hb).2.1; have := HN9.out; omega) BA.out.size).mono ?_; rintro x w5 ⟨y5, rfl, hown, hb⟩; have O5 := Lib.hid hown; have B5 := Lib.hid (BA.out.trans hb); clear hown hb))
      go_ret
      refine ⟨_, fs.take p ++ (e, .slice uo un uc) :: fs.drop p, rfl, ?_, fun z hz => ?_, .inr O5.out, holdsU_own O5.out, B5.out⟩
      · rw [HIM.out p HPP.out, HMF.out]; exact HR.out.symm
      · rcases List.mem_append.1 hz with hz | hz
        · exact .inl (HSUB.out z (List.mem_of_mem_take hz))
        · rcases List.mem_cons.1 hz with hz | hz
          · exact .inr hz
          · exact .inl (HSUB.out z (List.mem_of_mem_drop hz))
    · go_upto_region 7 with (first
        | (go_at_call 85; refine (IXF.out _ (holdsU_own O2.out)).mono ?_; rintro x w3 ⟨rfl, hb⟩; have B3 := Lib.hid (below_next B2.out hb); have C3 := Lib.hid (below_next C2.out hb); have O3 := Lib.hid (own_belowM O2.out hb); clear hb))
      have E3 := Lib.hid (evAt_kept E0.out C3.out)
      obtain ⟨N9, hN9⟩ : ∃ N, w3.heap.size = N := ⟨_, rfl⟩
      have HN9 := Lib.hid hN9
      have HOB := Lib.hid (own_blockM O3.out)
      clear hN9
      go_wp2_with (first
        | (refine load_ev_on (by rfl) 30 (.tmp 3) rfl w.heap.size rfl E3.out Tryz.underlying30 evSize ?_)
        | (refine build_evM rfl 24 rfl (.tmp 23) rfl N9 HN9.out e uo un uc rfl ?_; rintro wA hEA hBA hNA; have EA := Lib.hid hEA; have BA := Lib.hid (below_next B3.out hBA); have OA := Lib.hid (own_belowM O3.out hBA); clear hEA hBA hNA)
        | (go_at_call 87; refine (insert_any w.heap.size fs (Nat.le_trans HFL.out (by decide)) _ fs.length (by omega) N9 e (.slice uo un uc) rfl wA OA.out HONE.out EA.out (fun b hb => by have := (HOB.out b hb).2.1; have := HN9.out; omega) BA.out.size).mono ?_; rintro x w5 ⟨y5, rfl, hown, hb⟩; have O5 := Lib.hid hown; have B5 := Lib.hid (BA.out.trans hb); clear hown hb))
      go_ret
      refine ⟨_, fs.take fs.length ++ (e, .slice uo un uc) :: fs.drop fs.length, rfl, ?_, fun z hz => ?_, .inr O5.out, holdsU_own O5.out, B5.out⟩
      · rw [HIM.out fs.length HPP.out, HMF.out]; exact HR.out.symm
      · rcases List.mem_append.1 hz with hz | hz
        · exact .inl (HSUB.out z (List.mem_of_mem_take hz))
        · rcases List.mem_cons.1 hz with hz | hz
          · exact .inr hz
          · exact .inl (HSUB.out z (List.mem_of_mem_drop hz))
set_option maxRecDepth 100000 in
set_option maxHeartbeats 16000000 in
theorem add_any (us : List (Ev × Value)) (hl : us.length ≤ 40000) (hf : FitU us) (e : Ev) (hfe : FitE e) (v u : Value) (w : World) (hv : HoldsU w v us) (hd : DepsU w us) (hu : HasDots w u e.deps) : Calls Tryz.prog 16 #[v, .agg (evC e u)] w fun x w' => ∃ y, x = .returned y ∧ HasEvs w' y (addE (us.map (·.1)) e) ∧ Below w.heap.size w w' := by
  have E0 := Lib.hid (box_ev w 30 e u)
  have h0 := (Below.refl w.heap.size w).alloc (Nat.le_refl _) (.cells (evC e u) 30 (0, 0))
  have B0 := Lib.hid h0
  have AD := Lib.hid (added_any us hl hf e hfe v u _ (holdsU_below hv h0) (depsU_below hd h0) (dots_below hu h0))
  have HD := Lib.hid hd
  have HU := Lib.hid hu
  have HL := Lib.hid (show ∀ us' : List (Ev × Value), us'.map (·.1) = addE (us.map (·.1)) e → us'.length ≤ 50000 from fun us' h => by
    have h1 := congrArg List.length h
    have h2 := addE_len (us.map (·.1)) e
    rw [List.length_map] at h1 h2; omega)
  have HF := Lib.hid (show ∀ us' : List (Ev × Value), (∀ z ∈ us', z ∈ us ∨ z = (e, u)) → ∀ x ∈ us', x.1.deps.length < 2000000 from fun us' h x hx => by
    rcases h x hx with h1 | h1
    · exact (hf x h1).2.2.1
    · rw [h1]; exact hfe.2.2.1)
  obtain ⟨vo, vc, hvs⟩ := holdsU_shape hv _ rfl
  subst hvs
  clear hl hf hfe hv hd hu h0
  go_enter Tryz.func16, Tryz.ntmps16
  go_upto_region 1 with fail
  generalize w.alloc (.cells (evC e u) 30 (0, 0)) = W0 at *
  go_wp2_with (first
    | (refine load_ev_on (by rfl) 30 (.tmp 3) rfl w.heap.size rfl E0.out Tryz.underlying30 evSize ?_)
    | (go_at_call 44; refine AD.out.mono ?_; rintro x w1 ⟨y, us', rfl, hm, hs, -, hh, hb⟩; have B1 := Lib.hid (below_next B0.out hb); have HM := Lib.hid hm; have HS := Lib.hid hs; have HH := Lib.hid hh; clear hm hs hh hb)
    | (go_at_call 43; refine (copied_any us' (HL.out us' HM.out) (HF.out us' HS.out) y w1 HH.out (fun x hx => by
        rcases HS.out x hx with h1 | h1
        · exact dots_below (HD.out x h1) B1.out
        · rw [h1]; exact dots_below HU.out B1.out)).mono ?_; rintro x w2 ⟨z, rfl, he, hb⟩; have B2 := Lib.hid (below_next B1.out hb); have HE := Lib.hid he; clear he hb))
  go_ret
  exact ⟨_, rfl, by rw [← HM.out]; exact HE.out, B2.out⟩
end Go.Proofs.YtcdjkjadbhejpaaGreatDoor
