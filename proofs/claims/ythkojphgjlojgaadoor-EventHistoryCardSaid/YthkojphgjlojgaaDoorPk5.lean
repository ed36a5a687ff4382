/-
Texts that all claims of this seat share, part 5: DotText, VecTell, SeqCells, VecSeq, DotCut, DotCode, VecParse, Ref04Parse, HexaParse.
-/
import Derived.Lib.Join
import Derived.RangeFuncNested
import Derived.RangeFuncBound
import Derived.RangeFuncCalls
import Derived.RangeFuncLeaves
import Derived.RangeFuncFrom
import Derived.Shelf.Abstract
import Derived.Shelf.RegionOpen
import Derived.WalkKit
import Derived.OwnWalkIn
import Derived.TacticsInMore
import Derived.LoopNIn
import Derived.LoopIn
import Derived.Test.YthkojphgjlojgaaDoorShelf
import Derived.Lib.IndexLaws
import Derived.OneCell
import Derived.WalkMore
import Derived.ScopeJumps
import Derived.Test.YthkojphgjlojgaaDoorPk4
namespace Go.Proofs.YthkojphgjlojgaaDoor
open Go.RowKit
set_option maxRecDepth 100000 in
set_option maxHeartbeats 4000000 in
theorem text_any9 (r q : Int) (hr : I64 r) (hq : I64 q) (w : World) (hT : PowTab w) : Calls Tryd.prog 44 #[.agg #[.int .i64 r, .int .i64 q]] w fun e w' => e = .returned (.string (str (textD r q))) ∧ Below w.heap.size w w' := by
  have HT := Lib.hid hT
  have N1 := Lib.hid (fun w hT => number_any w r hr.1 hr.2 hT)
  have N2 := Lib.hid (fun w hT => number_any w q hq.1 hq.2 hT)
  have HL := Lib.hid (And.intro (numL_length r hr.1 hr.2) (numL_length q hq.1 hq.2))
  obtain ⟨R, hR⟩ : ∃ R, numL r = R := ⟨_, rfl⟩
  obtain ⟨Q, hQ⟩ : ∃ Q, numL q = Q := ⟨_, rfl⟩
  obtain ⟨A1, hA1⟩ : ∃ A1, R ++ [58] = A1 := ⟨_, rfl⟩
  obtain ⟨A2, hA2⟩ : ∃ A2, A1 ++ Q = A2 := ⟨_, rfl⟩
  have HE := Lib.hid (show A2 = textD r q by rw [← hA2, ← hA1, ← hR, ← hQ]; simp [textD])
  have hA := Lib.hid (And.intro hA1 hA2)
  rw [hR] at N1 HL
  rw [hQ] at N2 HL
  have c0 : (w.alloc (.cells #[.int .i64 r, .int .i64 q] 32 (0, 0))).cell? ⟨w.heap.size, 0, none⟩ = some (.int .i64 r) := by rw [cell_of_row _ _ 0 _ _ _ (heap_last w _)]; rfl
  have c1 : (w.alloc (.cells #[.int .i64 r, .int .i64 q] 32 (0, 0))).cell? ⟨w.heap.size, 1, none⟩ = some (.int .i64 q) := by rw [cell_of_row _ _ 1 _ _ _ (heap_last w _)]; rfl
  have B0 := Lib.hid ((Below.refl w.heap.size w).alloc (Nat.le_refl _) (.cells #[.int .i64 r, .int .i64 q] 32 (0, 0)))
  clear hr hq hR hQ hA1 hA2 hT
  go_enter Tryd.func44, Tryd.ntmps44
  go_wp2
  refine wp_region_held_drew (S := fun w' => Below (w.alloc (.cells #[.int .i64 r, .int .i64 q] 32 (0, 0))).heap.size (w.alloc (.cells #[.int .i64 r, .int .i64 q] 32 (0, 0))) w') (by kernel_rfl) (below_draws (Below.refl _ _) 1) (fun hHeld => ?_)
  generalize (w.alloc (.cells #[.int .i64 r, .int .i64 q] 32 (0, 0))).drew = wd at hHeld ⊢
  refine take_at (i := 0) 3 rfl rfl (by kernel_rfl) (by kernel_rfl) (by kernel_rfl) (fun _ _ _ h => h) (sure_yes (by rfl) (fun w => by go_simp; try with_reducible rfl)) hHeld ?_
  simp only [List.setIfInBounds_toArray, List.set_cons_zero, List.set_cons_succ]
  refine take_at (i := 4) 7 rfl rfl (by kernel_rfl) (by kernel_rfl) (by kernel_rfl) (fun _ _ _ h => h) (sure_yes (by rfl) (fun w => by go_simp; try with_reducible rfl)) hHeld ?_
  simp only [List.setIfInBounds_toArray, List.set_cons_zero, List.set_cons_succ]
  refine take_at (i := 1) 4 rfl rfl (by kernel_rfl) (by kernel_rfl) (by kernel_rfl) (fun _ _ _ h => h) (cell_yields (by rfl) 3 (.tmp 3) rfl w.heap.size 0 rfl .i64 r Tryd.underlying3 (fun w' h => (cell_same (h.block w.heap.size (by simp)) 0).trans c0)) hHeld ?_
  simp only [List.setIfInBounds_toArray, List.set_cons_zero, List.set_cons_succ]
  refine take_at (i := 5) 8 rfl rfl (by kernel_rfl) (by kernel_rfl) (by kernel_rfl) (fun _ _ _ h => h) (cell_yields (by rfl) 2 (.tmp 7) rfl w.heap.size 1 rfl .i64 q Tryd.underlying2 (fun w' h => (cell_same (h.block w.heap.size (by simp)) 1).trans c1)) hHeld ?_
  simp only [List.setIfInBounds_toArray, List.set_cons_zero, List.set_cons_succ]
  refine wpAnyH_ready (rs := [2]) (by kernel_rfl) (by simp) ?_
  refine AllReadyH.cons rfl (fun K hK => ?_) AllReadyH.nil
  go_simp
  go_at_call 48
  refine (N1.out _ (powTab_below HT.out (below_next B0.out hHeld))).mono ?_
  rintro e w2 ⟨rfl, hb⟩
  dsimp only
  refine hK.out _ _ (below_next hHeld hb) (fun hHeld => ?_)
  clear hK K hb
  refine take_at (i := 3) 6 rfl rfl (by kernel_rfl) (by kernel_rfl) (by kernel_rfl) (fun _ _ _ h => h) (sure_yes (by rfl) (add_as (l := R) (m := [58]) rfl rfl rfl (by have h1 := HL.out.1; have h2 := HL.out.2; have e1 := congrArg List.length hA.out.1; simp at e1 ⊢; omega) hA.out.1)) hHeld ?_
  simp only [List.setIfInBounds_toArray, List.set_cons_zero, List.set_cons_succ]
  refine wpAnyH_ready (rs := [6]) (by kernel_rfl) (by simp) ?_
  refine AllReadyH.cons rfl (fun K hK => ?_) AllReadyH.nil
  go_simp
  go_at_call 48
  refine (N2.out _ (powTab_below HT.out (below_next B0.out hHeld))).mono ?_
  rintro e w2 ⟨rfl, hb⟩
  dsimp only
  refine hK.out _ _ (below_next hHeld hb) (fun hHeld => ?_)
  clear hK K hb
  refine take_at (i := 7) 10 rfl rfl (by kernel_rfl) (by kernel_rfl) (by kernel_rfl) (fun _ _ _ h => h) (sure_yes (by rfl) (add_as (l := A1) (m := Q) rfl rfl rfl (by have h1 := HL.out.1; have h2 := HL.out.2; have e1 := congrArg List.length hA.out.1; simp at e1 ⊢; omega) hA.out.2)) hHeld ?_
  simp only [List.setIfInBounds_toArray, List.set_cons_zero, List.set_cons_succ]
  refine take_at (i := 8) 2 rfl rfl (by kernel_rfl) (by kernel_rfl) (by kernel_rfl) (fun _ _ _ h => h) (sure_yes (by rfl) (fun w => by go_simp; try with_reducible rfl)) hHeld ?_
  simp only [List.setIfInBounds_toArray, List.set_cons_zero, List.set_cons_succ]
  refine wpAnyH_done (by kernel_rfl) ?_ _
  go_wp2
  go_ret
  exact ⟨by rw [← HE.out]; rfl, below_next B0.out hHeld⟩
end Go.Proofs.YthkojphgjlojgaaDoor
namespace Go.Proofs.YthkojphgjlojgaaDoor
open Go.RowKit
theorem infoStr10 : ∃ i, Tryd.prog.info? 9 = some i ∧ i.zero = some (.string ByteArray.empty) ∧ i.size = 1 ∧ i.bytes = 16 := by
  have h : (Tryd.prog.info? 9).map (fun i => (i.zero, i.size, i.bytes)) = some (some (.string ByteArray.empty), 1, 16) := by kernel_rfl
  cases hi : Tryd.prog.info? 9 with
  | none => rw [hi] at h; cases h
  | some i =>
    rw [hi] at h
    simp only [Option.map_some, Option.some.injEq, Prod.mk.injEq] at h
    exact ⟨i, rfl, h⟩
theorem lib_joinB (c : UInt8) (ps : List (List UInt8)) : Lib.join ps [c] = joinB c ps := by
  cases ps with
  | nil => rfl
  | cons p t =>
    rw [Lib.join_cons, joinB, Lib.joinTail]
    congr 1
/-- The texts of the first so many dots. -/
def dotTs (l : List D2) (k : Nat) : List (List UInt8) := (l.take k).map dotT
theorem dotTs_next {l : List D2} {k : Nat} {d : D2} (h : l[k]? = some d) : dotTs l (k + 1) = dotTs l k ++ [dotT d] := by
  rw [dotTs, List.take_add_one, h, List.map_append]; rfl
theorem dotTs_length (l : List D2) (k : Nat) : (dotTs l k).length ≤ k := by rw [dotTs, List.length_map, List.length_take]; omega
theorem dotTs_all (l : List D2) : dotTs l l.length = l.map dotT := by rw [dotTs, List.take_length]
/-- Texts of a slice, joined with a byte. -/
theorem join_any (c : UInt8) (ls : List (List UInt8)) (w : World) (base : Nat) (e : TypeId) (v : Value) (h : w.ownsRow base e 1 v ls.length (textsL ls)) (h0 : 0 < ls.length) (hn : ls.length ≤ 1000) (hl : (joinB c ls).length ≤ 140737488355328) :
    Calls Tryd.prog 76 #[v, .string ⟨#[c]⟩] w fun e w' => e = .returned (.string (str (joinB c ls))) ∧ Below w.heap.size w w' := by
  obtain ⟨g, cap, cur, rfl, -, hg, hcap, -, -, -⟩ := own_shape h h0
  have hcells : ∀ (j : Nat) x, (ls.map str)[j]? = some x → w.cell? ⟨g, 0 + j, none⟩ = some (.string x) := fun j x hx => by
    have h1 := h.cells (g := g) rfl j (.string x) (by
      rw [textsL, List.getElem?_map]
      rw [List.getElem?_map] at hx
      cases hj : ls[j]? with
      | none => rw [hj] at hx; cases hx
      | some y => rw [hj] at hx; exact congrArg some (congrArg Value.string (Option.some.inj hx)))
    have e : ((⟨g, 0, none⟩ : Addr).add j) = ⟨g, 0 + j, none⟩ := Addr.add_lit ..
    rwa [e] at h1
  have hm : (ls.map str).map (·.data.toList) = ls := by
    rw [List.map_map]
    conv => rhs; rw [← List.map_id ls]
    exact List.map_congr_left fun p _ => by simp [str]
  have hj := Tryd.strings_Join g 0 cap (ls.map str) ⟨#[c]⟩ w hcells (Array.getElem?_eq_some_iff.1 hg).1 (by rw [List.length_map]; omega) (by rw [List.length_map]; exact hcap) (by rw [hm]; show (Lib.join ls [c]).length ≤ _; rw [lib_joinB]; exact hl)
  rw [hm, List.length_map] at hj
  refine hj.mono fun e w' => ?_
  rintro ⟨rfl, hb⟩
  exact ⟨by show Ending.returned (Value.string ⟨(Lib.join ls [c]).toArray⟩) = _; rw [lib_joinB]; rfl, hb⟩
set_option maxRecDepth 100000 in
set_option maxHeartbeats 16000000 in
theorem vecText_any (l : List D2) (hl : l.length < 2000000) (v : Value) (w : World) (hv : HasDots w v l) (hT : PowTab w) : Calls Tryd.prog 45 #[v] w fun e w' => e = .returned (.string (str (textV l))) ∧ Below w.heap.size w w' := by
  obtain ⟨i0, hi, hz0, hz1, hz2⟩ := infoStr10
  have HV := Lib.hid hv
  have HT := Lib.hid hT
  have A1 := Lib.hid (fun w v hv => counts_V l hl v w hv)
  have MT := Lib.hid (fun G w hG => madeText_any (allV l) G w hG)
  have hmf : ∀ (fn : Fn) (first cap : Array Value) (w : World), (Instr.makeFunc fn first cap).run Tryd.prog w = .ok (.func fn first cap) w := fun _ _ _ _ => rfl
  obtain ⟨X, hX⟩ : ∃ X, X = vecOf l := ⟨_, rfl⟩
  have HX := Lib.hid (And.intro hX (show ∀ d ∈ X, mayT d = true by rw [hX]; exact vecOf_may l))
  obtain ⟨N, hN⟩ : ∃ N, N = X.length := ⟨_, rfl⟩
  have HN := Lib.hid (And.intro hN (show N ≤ 32 by rw [hN, hX]; exact ofN_length _ 32))
  have hN32 : N ≤ 32 := HN.out.2
  obtain ⟨ao, cap, rfl⟩ := dots_shape hv l.length rfl
  obtain ⟨n, hn⟩ : ∃ n, n = l.length := ⟨_, rfl⟩
  rw [← hn] at HV ⊢
  clear hv hl hn hT hX hN
  go_enter Tryd.func45, Tryd.ntmps45
  go_wp2_with (first
    | (go_at_call 73; with_reducible refine (A1.out w _ HV.out).mono ?_; rintro e w1 ⟨rfl, hb⟩; have B1 := Lib.hid hb; clear hb)
    | (refine alloc_as rfl 95 rfl _ zero49 ?_)
    | (refine store_new rfl 95 (.tmp 3) (.tmp 8) rfl rfl w1 _ (nums 32 (allV l)) 95 rfl rfl rfl (by rw [nums_size]; kernel_rfl) (by rw [nums_size, nums_size]) (nums_one _ _) ?_; intro w2 hg2 hb2 hs2; have HG := Lib.hid hg2; have B2 := Lib.hid (below_next B1.out hb2); clear hg2 hb2 hs2)
    | (go_at_call 74; refine (MT.out _ _ HG.out).mono ?_; rintro e w3 ⟨x, rfl, hx, hb⟩; have HD := Lib.hid (show HasDots w3 x X by rw [HX.out.1]; exact hx); obtain ⟨xo, xc, rfl⟩ := dots_shape HD.out N HN.out.1; have B3 := Lib.hid (below_next B2.out hb); clear hx hb))
  generalize w1.heap.size = G1 at *
  clear HG B1 B2
  go_loopw [4, 12] (fun v c wr => ∃ k : Nat, k ≤ N ∧ c = .int .i64 (k : Int) ∧ wr.ownsRow w3.heap.size 9 1 v (dotTs X k).length (textsL (dotTs X k)) ∧ Below w3.heap.size w3 wr) (fun _ c _ => N - (intOf c).toNat)
  case atStart => exact ⟨0, by omega, rfl, ⟨rfl, .inl ⟨rfl, rfl⟩⟩, Below.refl _ _⟩
  case round =>
    obtain ⟨k, hk, rfl, ho, hb⟩ := hrel
    have HO := Lib.hid ho
    have hd := dots_below HD.out hb
    have HB := Lib.hid hb
    by_cases hlt : k < N
    · have q0 : (k : Int) < (N : Int) := by omega
      have KK := Lib.hid (show k + 1 ≤ N ∧ N - (k + 1) < N - k by omega)
      obtain ⟨d, hdk⟩ : ∃ d, X[k]? = some d := ⟨_, List.getElem?_eq_getElem (by rw [← HN.out.1]; exact hlt)⟩
      have hm := mayT_bd (HX.out.2 d (List.mem_of_getElem? hdk))
      have HTN := Lib.hid (dotTs_next hdk)
      obtain ⟨r, q⟩ := d
      obtain ⟨ad, cap', e, c0, c1⟩ := dots_at hd N k HN.out.1.symm _ hdk
      cases e
      have C0 := Lib.hid (And.intro c0 c1)
      have D0 := Lib.hid (heap_last wr (.cells #[.int .i64 r, .int .i64 q] 32 (0, 0)))
      have K0 := (Below.refl wr.heap.size wr).alloc (Nat.le_refl _) (.cells #[.int .i64 r, .int .i64 q] 32 (0, 0))
      have B0 := Lib.hid (below_next hb K0)
      have O0 := Lib.hid (own_below ho K0)
      have TX := Lib.hid (fun w hT => text_any9 r q (by unfold I64; simp only at hm; omega) (by unfold I64; simp only at hm; omega) w hT)
      have HTL := Lib.hid (dotTs_length X k)
      replace TX := Lib.hid (show ∀ w, PowTab w → Calls Tryd.prog 44 #[.agg #[.int .i64 r, .int .i64 q]] w fun e w' => e = .returned (.string (str (dotT (r, q)))) ∧ Below w.heap.size w w' from TX.out)
      obtain ⟨T, hTT⟩ : ∃ T, T = dotT (r, q) := ⟨_, rfl⟩
      rw [← hTT] at TX HTN
      clear c0 c1 hdk hm ho hd hb K0 hlt hTT
      go_wp2_with (first
        | (refine load_dot10 (by rfl) 32 (.tmp 14) rfl (ad.add (k * 2)) rfl r q Tryd.underlying32 (by kernel_rfl) C0.out ?_)
        | (refine load_row_on (by rfl) 32 (.tmp 6) rfl wr.heap.size rfl 32 _ (0, 0) _ D0.out Tryd.underlying32 rfl (by kernel_rfl) ?_)
        | (go_at_call 44; refine (TX.out _ (powTab_below HT.out (below_next B3.out B0.out))).mono ?_; rintro e w4 ⟨rfl, hb⟩; have B4 := Lib.hid (below_next B0.out hb); have O4 := Lib.hid (own_below O0.out hb); clear hb)
        | (at_builtin; refine append_text rfl (.tmp 16) (.tmp 19) 54 rfl w3.heap.size 9 i0 Tryd.underlying54 hi hz0 hz1 hz2 _ (dotTs X k) T rfl (O4.out.alloc _) ⟨w4.heap.size, 0, none⟩ 1 rfl ((cell_of_row _ _ 0 _ _ _ (heap_last w4 _)).trans rfl) (by have := HTL.out; have := KK.out.1; have := HN.out.2; omega) (by have := B4.out.size; simp <;> omega) ?_; intro v1 w5 ho hg; rw [← HTN.out] at ho; have HO1 := Lib.hid ho; have HB1 := Lib.hid (below_grown (B4.out.alloc B4.out.size _) hg (by have := B4.out.size; simp <;> omega) (fun j hj => by have := (O4.out.lt j hj).1; omega)); clear ho hg))
      refine ⟨⟨k + 1, KK.out.1, by simp, HO1.out, HB1.out⟩, ?_⟩
      have := KK.out.2; simp [intOf]; omega
    · have q0 : ¬ (k : Int) < (N : Int) := by omega
      obtain rfl : k = N := by omega
      have HL := Lib.hid (show (X.map dotT).length = k by rw [List.length_map]; exact HN.out.1.symm)
      have hts : dotTs X k = X.map dotT := by conv => lhs; rw [HN.out.1]
                                              exact dotTs_all X
      rw [hts, HL.out] at ho
      clear hts
      obtain ⟨ao2, cap2, rfl⟩ := own_slice ho
      by_cases h0 : k = 0
      · subst h0
        have HE := Lib.hid (show str (textV l) = ⟨#[45]⟩ by rw [textV, ← HX.out.1, List.eq_nil_of_length_eq_zero HN.out.1.symm]; rfl)
        clear ho hd hlt
        go_wp2
        go_ret
        exact ⟨by rw [HE.out]; rfl, below_next B3.out hb⟩
      · have HE := Lib.hid (show joinB 44 (X.map dotT) = textV l by rw [textV, ← HX.out.1, textL, if_neg (fun e => h0 (by rw [HN.out.1, e]; rfl))])
        have e1 : ((k : Int) == 0) = false := by rw [beq_eq_false_iff_ne]; omega
        have JN := Lib.hid (join_any 44 (X.map dotT) wr _ _ _ (by rw [HL.out]; exact ho) (by rw [HL.out]; omega) (by rw [HL.out]; omega) (by rw [HE.out]; have := textV_length l; omega))
        rw [HE.out] at JN
        clear ho hd hlt h0
        go_wp2_with (first
          | (go_at_call 76; refine JN.out.mono ?_; rintro e w6 ⟨rfl, hb6⟩; have B6 := Lib.hid (below_next (below_next B3.out hb) hb6); clear hb6))
        go_ret
        exact ⟨rfl, B6.out⟩
end Go.Proofs.YthkojphgjlojgaaDoor
namespace Go.Proofs.YthkojphgjlojgaaDoor
open Go.RowKit
/-- Three blocks from B on read as they did. -/
def Keep3 (B : Nat) (W W' : World) : Prop := ∀ g, B ≤ g → g < B + 3 → W'.heap[g]? = W.heap[g]?
theorem keep3_trans {B : Nat} {X Y Z : World} (h : Keep3 B X Y) (k : Keep3 B Y Z) : Keep3 B X Z := fun g h1 h2 => (k g h1 h2).trans (h g h1 h2)
theorem keep3_put {B l : Nat} (W : World) (o : Obj) (hl : B + 3 ≤ l) : Keep3 B W (W.putObj l o) := fun _ _ h2 => World.putObj_heap_other (by omega)
theorem keep3_below {B n : Nat} {W W' : World} (h : Below n W W') (hn : B + 3 ≤ n) : Keep3 B W W' := fun g _ h2 => h.block g (by omega)
/-- An invariant abides a write into a cell. -/
def AbidesSet {α : Type} (B : Nat) (J : List α → World → Prop) : Prop := ∀ s W v, J s W → J s (W.setCell ⟨B, 0, none⟩ v)
/-- What a function that is ranged over owes, if it writes the cell B between two rounds. -/
def SeqCell {α : Type} (F : Fence) (n : Nat) (P : Program) (g : Nat) (lb : Array Value) (encs : α → Array Value) (B : Nat) (S Sp : List α → Prop) (N : Nat) (w : World) : Prop :=
  ∀ (l : Nat) (J Jx : List α → World → Prop) (W : World), Below w.heap.size w W → AbidesSet B J →
    (∀ pre x W1, J pre W1 → pre.length < N → YieldAt F (n - 1) P l (encs x) W1 fun e W' =>
      (e = .returned (.bool true) ∧ J (pre ++ [x]) W' ∧ Keep3 B W1 W') ∨ (e = .returned (.bool false) ∧ Jx (pre ++ [x]) W')) →
    J [] W →
    CallsIn F n P g (#[.func (.yield l) #[] #[]] ++ lb) W fun e W' => (∃ v, e = .returned v) ∧ ((∃ xs, S xs ∧ J xs W') ∨ (∃ pre, Sp pre ∧ Jx pre W'))
/-- How a round's body is left: it goes on, or the function returns. -/
def roundOut {α : Type} (B : Nat) (I Ix : List α → World → Prop) (xs : List α) (W : World) : Exit → Act → World → Prop
  | .normal, _, W' => KeepsOthers W W' ∧ Keep3 B W W' ∧ I xs W'
  | .ret, _, W' => KeepsOthers W W' ∧ Ix xs W'
  | _, _, _ => False
variable {F : Fence} {n : Nat} {P : Program}
theorem range_cells {α : Type} {g : Operand} {ps : Array Tmp} {assign body : Code} {Q : Exit → Act → World → Prop} {a : Act} {w : World}
    (hro : F.round = none) (h1 : 1 ≤ n) {gf : Nat} {lb : Array Value} (hg : a.eval g = .func (.func gf) #[] lb) (hFg : F.fn gf) (eg : ∀ args w, (callFunc gf args).run P w = .ok (.enter gf args) w)
    {encs : α → Array Value} {B : Nat} {S Sp : List α → Prop} {N : Nat} (hB : B + 3 ≤ w.heap.size) (hseq : SeqCell F (n - 1) P gf lb encs B S Sp N w) (hps : ∀ x, (encs x).size = ps.size)
    (I Ix : List α → World → Prop) (hI : OwnFrom w.heap.size I) (hIx : OwnFrom w.heap.size Ix) (hIs : AbidesSet B I) (h0 : I [] w) (a₁ : α → Act)
    (hassign : ∀ (l : Nat) (x : α) (W : World) (K : Act → World → Prop), K (a₁ x) W →
      assign.wpIn (F.inRound l) (n - 1 - 1) P (Exit.then K (fun _ _ _ => False)) { tmps := (ps.zip (encs x)).foldl (fun t (p, v) => t.setIfInBounds p v) a.tmps, defers := [] } W)
    (hbody : ∀ (l : Nat) (pre : List α) (x : α) (W : World), I pre W → pre.length < N → body.wpIn (F.inRound l) (n - 1 - 1) P (roundOut B I Ix (pre ++ [x]) W) (a₁ x) W)
    (hdone : ∀ (D : Nat) (xs : List α) (W : World), w.heap.size ≤ D → S xs → I xs W → W.heap[D]? = some (.deferred (some [])) → Q .normal { a with defers := { target := .collected D, args := #[] } :: a.defers } W)
    (hstop : ∀ (D : Nat) (pre : List α) (W : World), w.heap.size ≤ D → Sp pre → Ix pre W → W.heap[D]? = some (.deferred (some [])) → Code.ret.wpIn F n P Q { a with defers := { target := .collected D, args := #[] } :: a.defers } W) :
    (Code.rangeFunc g ps assign body).wpIn F n P Q a w := by
  refine wpIn_rangeFunc fun fn hfn => ?_
  rw [hro]
  -- the loop's record L, at the place R; the rounds' deferred calls at the place D
  let L : LoopState → Option Code → Obj := fun st j => .loop { state := st, pending := j, fn := fn, tmps := a.tmps, params := ps, assign := assign, body := body, defers := w.heap.size }
  have hBk : Below w.heap.size w ((w.alloc (.deferred (some []))).alloc (L .ready none)) := ((Below.refl _ w).alloc (Nat.le_refl _) _).alloc (by simp) _
  have hD : ((w.alloc (.deferred (some []))).alloc (L .ready none)).heap[w.heap.size]? = some (.deferred (some [])) := (Below.heap_alloc _ _ _ (by simp)).trans (World.alloc_heap_new w _)
  have hL : ((w.alloc (.deferred (some []))).alloc (L .ready none)).heap[w.heap.size + 1]? = some (L .ready none) := by
    have h := World.alloc_heap_new (w.alloc (.deferred (some []))) (L .ready none); rwa [World.size_alloc] at h
  have hI0 : I [] ((w.alloc (.deferred (some []))).alloc (L .ready none)) := hI.alloc _ (hI.alloc _ h0)
  refine ⟨w.heap.size + 1, [{ target := .collected w.heap.size, args := #[] }], _, { target := .fn (.func gf) lb, args := #[.func (.yield (w.heap.size + 1)) #[] #[]] }, _, gf, #[.func (.yield (w.heap.size + 1)) #[] #[]] ++ lb, _,
    run_enterLoop_outer _ _ _ _ _, (by simp only [resolve, hg]; simp [go_sem]; rfl), (fun f' hf' => by simp [Target.leads] at hf'; subst hf'; exact hFg), (by simp [invoke, go_sem, eg]; rfl), (fun _ => h1), ?_⟩
  have set_keeps : ∀ (W : World) (v : Value) (k : Nat) (o : Obj), W.heap[k]? = some o → o.isCells = false → (W.setCell ⟨B, 0, none⟩ v).heap[k]? = some o := fun W v k o h1 h2 => (KeepsOthers.setCell W _ v).same k o h1 h2
  refine (hseq (w.heap.size + 1)
    (fun pre W => I pre W ∧ W.heap[w.heap.size + 1]? = some (L .ready none) ∧ W.heap[w.heap.size]? = some (.deferred (some [])))
    (fun pre W => Ix pre W ∧ W.heap[w.heap.size + 1]? = some (L .done (some .ret)) ∧ W.heap[w.heap.size]? = some (.deferred (some []))) _ hBk
    (fun s W v h => ⟨hIs s W v h.1, set_keeps W v _ _ h.2.1 rfl, set_keeps W v _ _ h.2.2 rfl⟩) ?_ ⟨hI0, hL, hD⟩).mono ?_
  · rintro pre x W ⟨hi, hl, hd⟩ hlen
    have hlt : w.heap.size + 1 < W.heap.size := (Array.getElem?_eq_some_iff.1 hl).1
    refine ⟨fn, _, assign, body, run_yield (P := P) (args := encs x) hl (hps x), roundIn_of_wpIn hfn (hassign _ x W _ ⟨_, run_beginRound hl rfl, ?_⟩)⟩
    obtain ⟨W2, hW2⟩ : ∃ W2, W.putObj (w.heap.size + 1) (L .busy none) = W2 := ⟨_, rfl⟩
    have e2 : W2.heap[w.heap.size + 1]? = some (L .busy none) := by rw [← hW2]; exact World.putObj_heap_same hlt
    have d2 : W2.heap[w.heap.size]? = some (.deferred (some [])) := by rw [← hW2]; exact (World.putObj_heap_other (by omega)).trans hd
    have k2 : Keep3 B W W2 := by rw [← hW2]; exact keep3_put W _ (by omega)
    have i2 : I pre W2 := by rw [← hW2]; exact hI.putObj _ hi (by omega) hl rfl
    show body.wpIn _ _ _ _ _ (W.putObj (w.heap.size + 1) (L .busy none))
    rw [hW2]
    refine wpIn_mono (hbody _ pre x W2 i2 hlen) ?_
    rintro e a3 W3 hp
    cases e with
    | normal =>
      obtain ⟨q1, q2, q3⟩ := hp
      have e3 := q1.same _ _ e2 rfl
      have d3 := q1.same _ _ d2 rfl
      refine ⟨_, _, run_endRound (P := P) none e3, .inl ⟨rfl, ⟨hI.putObj _ q3 (by omega) e3 rfl, World.putObj_heap_same (Array.getElem?_eq_some_iff.1 e3).1, (World.putObj_heap_other (by omega)).trans d3⟩, keep3_trans (keep3_trans k2 q2) (keep3_put W3 _ (by omega))⟩⟩
    | ret =>
      obtain ⟨q1, q3⟩ := hp
      have e3 := q1.same _ _ e2 rfl
      have d3 := q1.same _ _ d2 rfl
      exact ⟨_, _, run_endRound (P := P) (some .ret) e3, .inr ⟨rfl, hIx.putObj _ q3 (by omega) e3 rfl, World.putObj_heap_same (Array.getElem?_eq_some_iff.1 e3).1, (World.putObj_heap_other (by omega)).trans d3⟩⟩
    | exit id => exact hp.elim
    | goto t => exact hp.elim
    | panic ch => exact hp.elim
    | outgrown => exact hp.elim
  · rintro e W2 ⟨⟨v, rfl⟩, (⟨xs, hS, hi, hl, hd⟩ | ⟨pre, hSp, hi, hl, hd⟩)⟩
    · exact ⟨none, _, run_endLoop (P := P) hl (by simp), hdone _ xs _ (Nat.le_refl _) hS (hI.putObj _ hi (by omega) hl rfl) ((World.putObj_heap_other (by omega)).trans hd)⟩
    · exact ⟨some .ret, _, run_endLoop (P := P) hl (by simp), hstop _ pre _ (Nat.le_refl _) hSp (hIx.putObj _ hi (by omega) hl rfl) ((World.putObj_heap_other (by omega)).trans hd)⟩
end Go.Proofs.YthkojphgjlojgaaDoor
namespace Go.Proofs.YthkojphgjlojgaaDoor
open Go.RowKit Go.Shelf
attribute [local go_sem] Oper.semAt_some
/-- A piece no longer than the text. -/
abbrev Pc (s : List UInt8) := { p : List UInt8 // p.length ≤ s.length }
theorem comma_first (t : List UInt8) : (Lib.indexByte t 44 = -1 ∧ piecesB 44 t = [t]) ∨ ∃ o : Nat, o < t.length ∧ Lib.indexByte t 44 = (o : Int) ∧ piecesB 44 t = t.take o :: piecesB 44 (t.drop (o + 1)) := by
  have hge := Lib.indexByte_ge t 44
  by_cases h : Lib.indexByte t 44 = -1
  · have hn : (44 : UInt8) ∉ t := fun hm => by
      obtain ⟨j, hj, e⟩ := List.mem_iff_getElem.1 hm
      exact absurd (by rw [List.getElem?_eq_getElem hj, e]) (Lib.indexByte_none h j)
    exact .inl ⟨h, pieces_last hn⟩
  · obtain ⟨k, hk⟩ : ∃ k : Nat, Lib.indexByte t 44 = (k : Int) := ⟨(Lib.indexByte t 44).toNat, by omega⟩
    obtain ⟨h1, h2⟩ := Lib.indexByte_some hk
    obtain ⟨hlt, he⟩ := List.getElem?_eq_some_iff.1 h1
    refine .inr ⟨k, hlt, hk, ?_⟩
    have hn : (44 : UInt8) ∉ t.take k := fun hm => by
      obtain ⟨j, hj, e⟩ := List.mem_iff_getElem.1 hm
      rw [List.length_take] at hj
      refine h2 j (by omega) ?_
      rw [List.getElem_take] at e
      rw [List.getElem?_eq_getElem (by omega), e]
    have hs : t = t.take k ++ 44 :: t.drop (k + 1) := by
      conv => lhs; rw [← List.take_append_drop k t]
      rw [List.drop_eq_getElem_cons hlt, he]
    conv => lhs; rw [hs]
    exact pieces_front hn
/-- How long the text in a cell is. -/
def cellLen (B : Nat) (W : World) : Nat := match W.cell? ⟨B, 0, none⟩ with | some (.string b) => b.size | _ => 0
theorem cellLen_one {B : Nat} {W : World} {t : TypeId} {b : ByteArray} (h : W.heap[B]? = some (.cells #[.string b] t (0, 0))) : cellLen B W = b.size := by
  unfold cellLen; rw [cell_of_one h]
theorem seq10_wraps (o m O : Nat) (h : o < m) (hm : m < 1152921504606846976) (hO : O = o + 1) : wrap64 ((o : Int) + 1) = (O : Int) ∧ wrap64 ((o : Int) + 0) = (o : Int) ∧ decide ((o : Int) < 0) = false := by
  refine ⟨?_, ?_, decide_eq_false (by omega)⟩ <;> rw [wrap64] <;> omega
theorem drop_step (s : List UInt8) (f o O m k : Nat) (hm : m = s.length) (hlt : o < (s.drop f).length) (hO : O = o + 1) (hf : f ≤ m) (hk : k ≤ f + 1) : f + O ≤ m ∧ (s.drop f).drop O = s.drop (f + O) ∧ ((s.drop f).drop O).length < (s.drop f).length ∧ k ≤ f + O := by
  rw [List.length_drop] at hlt
  exact ⟨by omega, List.drop_drop, by simp only [List.length_drop]; omega, by omega⟩
set_option maxRecDepth 100000 in
set_option maxHeartbeats 8000000 in
theorem splitSeq_in (n : Nat) (hn : 1 ≤ n) (l B : Nat) (s : List UInt8) (hs : s.length < 1152921504606846976) (J Jx : List (Pc s) → World → Prop) (hJ : AbidesSet B J)
    (hY : ∀ pre x W, J pre W → pre.length < s.length + 1 → YieldAt Fence.wide (n - 1) Tryd.prog l #[.string (str x.1)] W fun e W' =>
      (e = .returned (.bool true) ∧ J (pre ++ [x]) W' ∧ Keep3 B W W') ∨ (e = .returned (.bool false) ∧ Jx (pre ++ [x]) W'))
    (W : World) (hB0 : W.heap[B]? = some (.cells #[.string (str s)] 9 (0, 0))) (hB1 : W.heap[B + 1]? = some (.cells #[.string ⟨#[44]⟩] 9 (0, 0))) (hB2 : W.heap[B + 2]? = some (.cells #[.int .i64 0] 3 (0, 0))) (h0 : J [] W) :
    CallsIn Fence.wide n Tryd.prog 123 #[.func (.yield l) #[] #[], .pointer (some ⟨B + 1, 0, none⟩), .pointer (some ⟨B, 0, none⟩), .pointer (some ⟨B + 2, 0, none⟩)] W fun e W' => (∃ v, e = .returned v) ∧
      ((∃ ys : List (Pc s), ys.map (·.1) = piecesB 44 s ∧ J ys W') ∨ (∃ pre : List (Pc s), pre.map (·.1) <+: piecesB 44 s ∧ Jx pre W')) := by
  obtain ⟨m, hm⟩ : ∃ m, m = s.length := ⟨_, rfl⟩
  have HM := Lib.hid hm
  rw [← hm] at hs
  have HMS := Lib.hid hs
  have s2 : (ByteArray.mk #[44]).size = 1 := rfl
  have c1 := cell_of_one hB1
  clear hm hs
  refine callsIn_of_wp Tryd.func123 rfl trivial ?_ rfl
  simp only [Tryd.ntmps123, List.size_toArray, List.length_cons, List.length_nil, Nat.reduceAdd, Nat.reduceSub, Array.replicate_succ, Array.replicate_zero, List.push_toArray, List.append_toArray, List.nil_append, List.cons_append]
  gi_wp2
  gi_loopw [7] (fun x wr => ∃ (f : Nat) (pre : List (Pc s)), f ≤ m ∧ pre.map (·.1) ++ piecesB 44 (s.drop f) = piecesB 44 s ∧ pre.length ≤ f ∧ J pre wr ∧ wr.heap[B]? = some (.cells #[.string (str (s.drop f))] 9 (0, 0)) ∧ wr.heap[B + 1]? = some (.cells #[.string ⟨#[44]⟩] 9 (0, 0)) ∧ wr.heap[B + 2]? = some (.cells #[.int .i64 0] 3 (0, 0)))
    (fun _ wr => cellLen B wr)
  case atStart => exact ⟨0, [], by omega, rfl, Nat.le_refl _, h0, hB0, hB1, hB2⟩
  case round =>
    obtain ⟨f, pre, hfm, hpc, hpl, hj, b0, b1, b2⟩ := hrel
    have HPC := Lib.hid (And.intro hpc hpl)
    have hpre : pre.length < s.length + 1 := by have := HM.out; omega
    have HB := Lib.hid (And.intro b0 (And.intro b1 b2))
    have c0 := cell_of_one b0
    have c1 := cell_of_one b1
    have c2 := cell_of_one b2
    have HX := Lib.hid (show ∀ w, Calls Tryd.prog 79 #[.string (str (s.drop f)), .string ⟨#[44]⟩] w fun e w' => e = .returned (.int .i64 (Lib.indexByte (s.drop f) 44)) ∧ w = w' from fun w => by
      refine (Tryd.strings_Index_one (str (s.drop f)) 44 w).mono fun e w' h => ?_
      rw [show (str (s.drop f)).data.toList = s.drop f from by simp [str]] at h
      exact ⟨h.1, h.2.symm⟩)
    rcases comma_first (s.drop f) with ⟨hix, hmk⟩ | ⟨o, hlt, hix, hmk⟩
    · rw [hix] at HX
      obtain ⟨p, hp⟩ : ∃ p : Pc s, p.1 = s.drop f := ⟨⟨s.drop f, by simp⟩, rfl⟩
      have HE := Lib.hid (show (pre ++ [p]).map (·.1) = piecesB 44 s by
        rw [← HPC.out.1, List.map_append, List.map_cons, List.map_nil, hp, hmk])
      obtain ⟨fn, tmps, assign, body, hy, hR⟩ := hY pre p wr hj hpre
      rw [hp] at hy
      clear hp hpl hix hmk hpc b0 b1 b2 hpre
      gi_wp2_with (refine ⟨trivial, ?_⟩; gi_at_call 79; refine (callsIn_wide.2 (HX.out _)).mono ?_; rintro e w' ⟨rfl, rfl⟩)
      refine hR.mono ?_
      rintro e W3 (⟨rfl, hJ3, hk3⟩ | ⟨rfl, hJx3⟩)
      · gi_wp2
        refine bodyPost_end (results_none rfl _ _ _) rfl ?_
        exact ⟨⟨_, rfl⟩, .inl ⟨pre ++ [p], HE.out, hJ3⟩⟩
      · gi_wp2
        refine bodyPost_end (results_none rfl _ _ _) rfl ?_
        exact ⟨⟨_, rfl⟩, .inr ⟨pre ++ [p], by rw [HE.out]; exact List.prefix_refl _, hJx3⟩⟩
    · rw [hix] at HX
      obtain ⟨p, hp⟩ : ∃ p : Pc s, p.1 = (s.drop f).take o := ⟨⟨(s.drop f).take o, by rw [List.length_take, List.length_drop]; omega⟩, rfl⟩
      obtain ⟨O, hO⟩ : ∃ O : Nat, O = o + 1 := ⟨_, rfl⟩
      have hlm : o < m := by rw [List.length_drop] at hlt; have := HM.out; omega
      have HG := Lib.hid (drop_step s f o O m (pre ++ [p]).length HM.out hlt hO hfm (by rw [List.length_append, List.length_singleton]; omega))
      have ho' : o ≤ (s.drop f).length := Nat.le_of_lt hlt
      have hO' : O ≤ (s.drop f).length := by rw [hO]; exact hlt
      obtain ⟨w1, w2, d0⟩ := seq10_wraps o m O hlm HMS.out hO
      have w3 : wrap64 (o : Int) = (o : Int) := by rw [Int.add_zero] at w2; exact w2
      have sl1 : ∀ w, (Instr.slice 9 (.string (str (s.drop f))) none (some (.int .i64 (o : Int))) none).run Tryd.prog w = .ok (.string (str ((s.drop f).take o))) w := fun w => slice_upto w 9 (s.drop f) o ho' Tryd.underlying9
      have sl2 : ∀ w, (Instr.slice 9 (.string (str (s.drop f))) (some (.int .i64 (O : Int))) none none).run Tryd.prog w = .ok (.string (str ((s.drop f).drop O))) w := fun w => slice_rest w 9 (s.drop f) O hO' Tryd.underlying9
      have HE := Lib.hid (show (pre ++ [p]).map (·.1) ++ piecesB 44 ((s.drop f).drop O) = piecesB 44 s by
        rw [← HPC.out.1, List.map_append, List.map_cons, List.map_nil, hp, hmk, hO, List.append_assoc]; rfl)
      obtain ⟨fn, tmps, assign, body, hy, hR⟩ := hY pre p wr hj hpre
      rw [hp] at hy
      obtain ⟨X, hX⟩ : ∃ X, X = s.drop f := ⟨_, rfl⟩
      rw [← hX] at HX sl1 sl2 HE HG c0 HB hy
      obtain ⟨Y, hY1⟩ : ∃ Y, Y = X.take o := ⟨_, rfl⟩
      rw [← hY1] at sl1 hy
      obtain ⟨Z, hZ⟩ : ∃ Z, Z = X.drop O := ⟨_, rfl⟩
      rw [← hZ] at sl2 HE HG
      clear hp hpl hix hmk hpc b0 b1 b2 hlt hO hlm ho' hO' hpre hX hY1 hZ
      gi_wp2_with (refine ⟨trivial, ?_⟩; gi_at_call 79; refine (callsIn_wide.2 (HX.out _)).mono ?_; rintro e w' ⟨rfl, rfl⟩)
      refine hR.mono ?_
      rintro e W3 (⟨rfl, hJ3, hk3⟩ | ⟨rfl, hJx3⟩)
      · have b0 := (hk3 B (Nat.le_refl _) (by omega)).trans HB.out.1
        have b1 := (hk3 (B + 1) (by omega) (by omega)).trans HB.out.2.1
        have b2 := (hk3 (B + 2) (by omega) (by omega)).trans HB.out.2.2
        have c0 := cell_of_one b0
        have f0 := free_of_one b0
        have c1 := cell_of_one b1
        have HN := Lib.hid (And.intro (one_setCell (u := .string (str Z)) b0) (And.intro ((heap_setCell_other W3 ⟨B, 0, none⟩ (B + 1) (.string (str Z)) (by show B + 1 ≠ B; omega)).trans b1) (And.intro ((heap_setCell_other W3 ⟨B, 0, none⟩ (B + 2) (.string (str Z)) (by show B + 2 ≠ B; omega)).trans b2) (hJ _ W3 (.string (str Z)) hJ3))))
        clear b0 b1 b2 hk3
        gi_wp2
        go_roundw
        case rel => exact ⟨f + O, pre ++ [p], HG.out.1, by rw [← HG.out.2.1]; exact HE.out, HG.out.2.2.2, HN.out.2.2.2, by rw [← HG.out.2.1]; exact HN.out.1, HN.out.2.1, HN.out.2.2.1⟩
        case measure => rw [cellLen_one HN.out.1, cellLen_one HB.out.1, str_size, str_size]; exact HG.out.2.2.1
      · gi_wp2
        refine bodyPost_ret (results_none rfl _ _ _) rfl ?_
        exact ⟨⟨_, rfl⟩, .inr ⟨pre ++ [p], ⟨_, HE.out⟩, hJx3⟩⟩
theorem seq10 (n : Nat) (hn : 1 ≤ n) (B : Nat) (s : List UInt8) (hs : s.length < 1152921504606846976) (w : World) (hB : B + 3 ≤ w.heap.size) (hB0 : w.heap[B]? = some (.cells #[.string (str s)] 9 (0, 0))) (hB1 : w.heap[B + 1]? = some (.cells #[.string ⟨#[44]⟩] 9 (0, 0))) (hB2 : w.heap[B + 2]? = some (.cells #[.int .i64 0] 3 (0, 0))) :
    SeqCell Fence.wide n Tryd.prog 123 #[.pointer (some ⟨B + 1, 0, none⟩), .pointer (some ⟨B, 0, none⟩), .pointer (some ⟨B + 2, 0, none⟩)] (fun x : Pc s => #[.string (str x.1)]) B (fun xs => xs.map (·.1) = piecesB 44 s) (fun pre => pre.map (·.1) <+: piecesB 44 s) (s.length + 1) w := fun l J Jx W hW hJ hY h0 =>
  splitSeq_in n hn l B s hs J Jx hJ hY W ((hW.block B (by omega)).trans hB0) ((hW.block (B + 1) (by omega)).trans hB1) ((hW.block (B + 2) (by omega)).trans hB2) h0
/-- The function: it has laid its text, the byte between, and a number into three cells of its own. -/
theorem splitSeq_any (s : List UInt8) (w : World) : Calls Tryd.prog 88 #[.string (str s), .string ⟨#[44]⟩] w fun e w' => e = .returned (.func (.func 123) #[] #[.pointer (some ⟨w.heap.size + 1, 0, none⟩), .pointer (some ⟨w.heap.size, 0, none⟩), .pointer (some ⟨w.heap.size + 2, 0, none⟩)]) ∧
    (Below w.heap.size w w' ∧ w'.heap.size = w.heap.size + 3 ∧ w'.heap[w.heap.size]? = some (.cells #[.string (str s)] 9 (0, 0)) ∧ w'.heap[w.heap.size + 1]? = some (.cells #[.string ⟨#[44]⟩] 9 (0, 0)) ∧ w'.heap[w.heap.size + 2]? = some (.cells #[.int .i64 0] 3 (0, 0))) := by
  have hmf : ∀ (fn : Fn) (first cap : Array Value) (w : World), (Instr.makeFunc fn first cap).run Tryd.prog w = .ok (.func fn first cap) w := fun _ _ _ _ => rfl
  have H := Lib.hid (show Calls Tryd.prog 104 #[.string (str s), .string ⟨#[44]⟩, .int .i64 0] w fun e w' => e = .returned (.func (.func 123) #[] #[.pointer (some ⟨w.heap.size + 1, 0, none⟩), .pointer (some ⟨w.heap.size, 0, none⟩), .pointer (some ⟨w.heap.size + 2, 0, none⟩)]) ∧ w' = ((w.alloc (.cells #[.string (str s)] 9)).alloc (.cells #[.string ⟨#[44]⟩] 9)).alloc (.cells #[.int .i64 0] 3) from by
    go_enter Tryd.func104, Tryd.ntmps104
    go_wp2
    go_ret
    exact ⟨rfl, rfl⟩)
  go_enter Tryd.func88, Tryd.ntmps88
  go_wp2_with (first | (go_at_call 104; refine H.out.mono ?_; rintro e w1 ⟨rfl, rfl⟩))
  go_ret
  exact ⟨rfl, (((Below.refl w.heap.size w).alloc (Nat.le_refl _) _).alloc (by simp) _).alloc (by simp; omega) _, by simp, alloc3_0 w _ _ _, alloc3_1 w _ _ _, alloc3_2 w _ _ _⟩
end Go.Proofs.YthkojphgjlojgaaDoor
namespace Go.Proofs.YthkojphgjlojgaaDoor
open Go.RowKit
/-- The first colon. -/
theorem index_colon (s : List UInt8) : (s.contains 58 = false ∧ Lib.indexByte s 58 = -1 ∧ aheadD s = s ∧ behindD s = []) ∨ ∃ k : Nat, k < s.length ∧ Lib.indexByte s 58 = (k : Int) ∧ aheadD s = s.take k ∧ behindD s = s.drop (k + 1) ∧ s.contains 58 = true := by
  have hge := Lib.indexByte_ge s 58
  by_cases h : Lib.indexByte s 58 = -1
  · have hn : (58 : UInt8) ∉ s := fun hm => by
      obtain ⟨j, hj, e⟩ := List.mem_iff_getElem.1 hm
      exact absurd (by rw [List.getElem?_eq_getElem hj, e]) (Lib.indexByte_none h j)
    have ha : aheadD s = s := by
      unfold aheadD
      have : ∀ l : List UInt8, (58 : UInt8) ∉ l → l.takeWhile (· != 58) = l := by
        intro l
        induction l with
        | nil => intro _; rfl
        | cons c r ih =>
          intro hl
          have hc : c ≠ 58 := fun e => hl (by rw [e]; exact List.mem_cons_self)
          rw [List.takeWhile_cons_of_pos (by simpa using hc), ih fun hm => hl (List.mem_cons_of_mem _ hm)]
      exact this s hn
    refine .inl ⟨?_, h, ha, ?_⟩
    · rw [Bool.eq_false_iff, ne_eq, List.contains_iff_mem]; exact hn
    · unfold behindD; rw [ha]; exact List.drop_of_length_le (by omega)
  · obtain ⟨k, hk⟩ : ∃ k : Nat, Lib.indexByte s 58 = (k : Int) := ⟨(Lib.indexByte s 58).toNat, by omega⟩
    obtain ⟨h1, h2⟩ := Lib.indexByte_some hk
    have hlt : k < s.length := (List.getElem?_eq_some_iff.1 h1).1
    obtain ⟨a1, a2, a3⟩ := ahead_at (s := s) (k := k) hlt (by rw [List.getD_eq_getElem?_getD, h1]; rfl) (fun j hj e => by
      refine h2 j hj ?_
      rw [List.getD_eq_getElem?_getD] at e
      rw [List.getElem?_eq_getElem (by omega)] at e ⊢
      exact congrArg some e)
    exact .inr ⟨k, hlt, hk, a1, a2, a3⟩
set_option maxRecDepth 100000 in
set_option maxHeartbeats 4000000 in
theorem liteCut_any (s : List UInt8) (hs : s.length < 1152921504606846976) (w : World) : Calls Tryd.prog 103 #[.string (str s), .string ⟨#[58]⟩] w fun e w' => e = .returned (.tuple #[.string (str (aheadD s)), .string (str (behindD s)), .bool (s.contains 58)]) ∧ Below w.heap.size w w' := by
  have HX := Lib.hid (show ∀ w, Calls Tryd.prog 94 #[.string (str s), .string ⟨#[58]⟩] w fun e w' => e = .returned (.int .i64 (Lib.indexByte s 58)) ∧ w = w' from fun w => by
    refine (Tryd.stringslite_Index_one (str s) 58 w).mono fun e w' h => ?_
    rw [show (str s).data.toList = s from by simp [str]] at h
    exact ⟨h.1, h.2.symm⟩)
  have s2 : (ByteArray.mk #[58]).size = 1 := rfl
  rcases index_colon s with ⟨c1, c2, c3, c4⟩ | ⟨k, hk, c2, c3, c4, c1⟩
  · rw [c2] at HX
    rw [c1, c3, c4]
    clear c1 c2 c3 c4
    go_enter Tryd.func103, Tryd.ntmps103
    go_wp2_with (first | (go_at_call 94; refine (HX.out _).mono ?_; rintro e w1 ⟨rfl, rfl⟩))
    go_ret3
    exact ⟨rfl, Below.refl _ _⟩
  · rw [c2] at HX
    rw [c1, c3, c4]
    have q1 : decide ((k : Int) ≥ 0) = true := decide_eq_true (by omega)
    obtain ⟨k1, hk1⟩ : ∃ k1, k1 = k + 1 := ⟨_, rfl⟩
    have e1 : wrap64 ((k : Int) + 1) = (k1 : Int) := by rw [wrap64]; omega
    have s3 : ∀ w, (Instr.slice 9 (.string (str s)) none (some (.int .i64 (k : Int))) none).run Tryd.prog w = .ok (.string (str (s.take k))) w := fun w => slice_upto w 9 s k (by omega) Tryd.underlying9
    have s4 : ∀ w, (Instr.slice 9 (.string (str s)) (some (.int .i64 (k1 : Int))) none none).run Tryd.prog w = .ok (.string (str (s.drop k1))) w := fun w => slice_rest w 9 s k1 (by omega) Tryd.underlying9
    rw [← hk1]
    generalize s.take k = X at *
    generalize s.drop k1 = Y at *
    clear c1 c2 c3 c4 hk hk1 hs
    go_enter Tryd.func103, Tryd.ntmps103
    go_wp2_with (first | (go_at_call 94; refine (HX.out _).mono ?_; rintro e w1 ⟨rfl, rfl⟩))
    go_quiet (fail)
    have B1 := Lib.hid (below_draws (Below.refl w.heap.size w) nq)
    generalize w.drewN nq = W1 at *
    go_wp2
    go_ret3
    exact ⟨rfl, B1.out⟩
set_option maxRecDepth 100000 in
set_option maxHeartbeats 4000000 in
theorem cut_any (s : List UInt8) (hs : s.length < 1152921504606846976) (w : World) : Calls Tryd.prog 87 #[.string (str s), .string ⟨#[58]⟩] w fun e w' => e = .returned (.tuple #[.string (str (aheadD s)), .string (str (behindD s)), .bool (s.contains 58)]) ∧ Below w.heap.size w w' := by
  have HC := Lib.hid (fun w => liteCut_any s hs w)
  generalize aheadD s = X at *
  generalize behindD s = Y at *
  generalize s.contains 58 = c at *
  clear hs
  go_enter Tryd.func87, Tryd.ntmps87
  go_wp2_with (first | (go_at_call 103; refine (HC.out _).mono ?_; rintro e W1 ⟨rfl, hb⟩; have B1 := Lib.hid hb; clear hb))
  go_ret3
  exact ⟨rfl, B1.out⟩
end Go.Proofs.YthkojphgjlojgaaDoor
namespace Go.Proofs.YthkojphgjlojgaaDoor
open Go.RowKit
theorem ahead_le (s : List UInt8) : (aheadD s).length ≤ s.length := (List.takeWhile_sublist _).length_le
theorem behind_le (s : List UInt8) : (behindD s).length ≤ s.length := by unfold behindD; rw [List.length_drop]; omega
set_option maxRecDepth 100000 in
set_option maxHeartbeats 8000000 in
theorem parse_any9 (s : List UInt8) (hs : s.length < 1152921504606846976) (w : World) : Calls Tryd.prog 68 #[.string (str s)] w fun e w' => e = .returned (.tuple #[.agg #[.int .i64 (parR s), .int .i64 (parQ s)], .int .i64 (parErr s)]) ∧ Below w.heap.size w w' := by
  have HC := Lib.hid (fun w => cut_any s hs w)
  have RA := Lib.hid (fun w => read_any w (aheadD s) 31 (by have := ahead_le s; omega))
  have RB := Lib.hid (fun w => read_any w (behindD s) 1099511627776 (by have := behind_le s; omega))
  have HD := Lib.hid (show isDot s = (s.contains 58 && (readErr (aheadD s) 31 == 0 && (readErr (behindD s) 1099511627776 == 0 && mayD (readN (aheadD s) 31) (readN (behindD s) 1099511627776)))) from rfl)
  have HP := Lib.hid (show parErr s = (if isDot s then 0 else 2) ∧ parR s = (if isDot s then readN (aheadD s) 31 else 0) ∧ parQ s = (if isDot s then readN (behindD s) 1099511627776 else 0) from ⟨rfl, rfl, rfl⟩)
  clear hs
  generalize readN (aheadD s) 31 = r at *
  generalize readN (behindD s) 1099511627776 = q at *
  generalize readErr (aheadD s) 31 = e1 at *
  generalize readErr (behindD s) 1099511627776 = e2 at *
  generalize aheadD s = X at *
  generalize behindD s = Y at *
  generalize s.contains 58 = c at *
  have M1 := Lib.hid (fun w => may_any9 r q w)
  have B0 := Lib.hid ((Below.refl w.heap.size w).alloc (Nat.le_refl _) (.cells #[.int .i64 0, .int .i64 0] 32 (0, 0)))
  have H0 := Lib.hid (heap_last w (.cells #[.int .i64 0, .int .i64 0] 32 (0, 0)))
  go_enter Tryd.func68, Tryd.ntmps68
  go_upto_region 1 with fail
  generalize w.alloc (.cells #[.int .i64 0, .int .i64 0] 32 (0, 0)) = W0 at *
  go_upto_region 2 with (first | (go_at_call 87; refine (HC.out _).mono ?_; rintro e W1 ⟨rfl, hb⟩; have G1 := Lib.hid (row_kept H0.out hb); have B1 := Lib.hid (below_next B0.out hb); clear hb))
  go_upto_region 3 with (first | (go_at_call 71; refine (RA.out _).mono ?_; rintro e W2 ⟨rfl, hb⟩; have G2 := Lib.hid (row_kept G1.out hb); have B2 := Lib.hid (below_next B1.out hb); clear hb))
  go_upto_region 4 with (first | (go_at_call 71; refine (RB.out _).mono ?_; rintro e W3 ⟨rfl, hb⟩; have G3 := Lib.hid (row_kept G2.out hb); have B3 := Lib.hid (below_next B2.out hb); clear hb))
  cases c with
  | false =>
    have hd : isDot s = false := by rw [HD.out]; rfl
    have HR := Lib.hid (show parR s = 0 ∧ parQ s = 0 ∧ parErr s = 2 by have h := HP.out; rw [hd] at h; exact ⟨h.2.1, h.2.2, h.1⟩)
    clear hd
    go_wp2_with (first
      | (refine build_on (by rfl) 32 #[] rfl _ _ dot_built0 (by simp [Act.eval]) ?_)
      | (refine wpList_store_row rfl 32 (.tmp 2) (.tmp 38) rfl w.heap.size _ rfl rfl 32 _ G3.out (by kernel_rfl) rfl (dot_one _ _) ?_))
    exact bodyPost_ret (results_cell2 Tryd.results68 _ _ w.heap.size 32 _ (0, 0) _ _ rfl rfl (setRow_heap _ _ _ _ _ _ G3.out) Tryd.underlying32 rfl (by kernel_rfl)) rfl ⟨by rw [HR.out.1, HR.out.2.1, HR.out.2.2]; rfl, below_setRow B3.out (Nat.le_refl _) _⟩
  | true =>
    by_cases z1 : e1 = 0
    · subst z1
      by_cases z2 : e2 = 0
      · subst z2
        go_upto_region 7 with (first
          | (refine build_on (by rfl) 32 #[(0, .tmp 39), (1, .tmp 40)] rfl _ _ (dot_built _ _) (by simp [Act.eval]) ?_))
        have H4 := Lib.hid (heap_last W3 (.cells #[.int .i64 r, .int .i64 q] 32 (0, 0)))
        have G4 := Lib.hid (row_kept G3.out ((Below.refl W3.heap.size W3).alloc (Nat.le_refl _) (.cells #[.int .i64 r, .int .i64 q] 32 (0, 0))))
        have B4 := Lib.hid (B3.out.alloc B3.out.size (.cells #[.int .i64 r, .int .i64 q] 32 (0, 0)))
        generalize W3.alloc (.cells #[.int .i64 r, .int .i64 q] 32 (0, 0)) = W4 at *
        cases hm : mayD r q with
        | true =>
          have hd : isDot s = true := by rw [HD.out, hm]; rfl
          have HR := Lib.hid (show parR s = r ∧ parQ s = q ∧ parErr s = 0 by have h := HP.out; rw [hd] at h; exact ⟨h.2.1, h.2.2, h.1⟩)
          rw [hm] at M1
          clear hd hm
          go_wp2_with (first
            | (refine load_row_on (by rfl) 32 (.tmp 11) rfl W3.heap.size rfl 32 _ (0, 0) _ H4.out Tryd.underlying32 rfl (by kernel_rfl) ?_)
            | (go_at_call 27; refine (M1.out _).mono ?_; rintro e W5 ⟨rfl, hb⟩; have G5 := Lib.hid (row_kept G4.out hb); have H5 := Lib.hid (row_kept H4.out hb); have B5 := Lib.hid (below_next B4.out hb); clear hb)
            | (refine load_row_on (by rfl) 32 (.tmp 11) rfl W3.heap.size rfl 32 _ (0, 0) _ H5.out Tryd.underlying32 rfl (by kernel_rfl) ?_)
            | (refine wpList_store_row rfl 32 (.tmp 2) (.tmp 46) rfl w.heap.size _ rfl rfl 32 _ G5.out (by kernel_rfl) rfl (dot_one _ _) ?_))
          exact bodyPost_ret (results_cell2 Tryd.results68 _ _ w.heap.size 32 _ (0, 0) _ _ rfl rfl (setRow_heap _ _ _ _ _ _ G5.out) Tryd.underlying32 rfl (by kernel_rfl)) rfl ⟨by rw [HR.out.1, HR.out.2.1, HR.out.2.2]; rfl, below_setRow B5.out (Nat.le_refl _) _⟩
        | false =>
          have hd : isDot s = false := by rw [HD.out, hm]; rfl
          have HR := Lib.hid (show parR s = 0 ∧ parQ s = 0 ∧ parErr s = 2 by have h := HP.out; rw [hd] at h; exact ⟨h.2.1, h.2.2, h.1⟩)
          rw [hm] at M1
          clear hd hm
          go_wp2_with (first
            | (refine load_row_on (by rfl) 32 (.tmp 11) rfl W3.heap.size rfl 32 _ (0, 0) _ H4.out Tryd.underlying32 rfl (by kernel_rfl) ?_)
            | (go_at_call 27; refine (M1.out _).mono ?_; rintro e W5 ⟨rfl, hb⟩; have G5 := Lib.hid (row_kept G4.out hb); have B5 := Lib.hid (below_next B4.out hb); clear hb)
            | (refine build_on (by rfl) 32 #[] rfl _ _ dot_built0 (by simp [Act.eval]) ?_)
            | (refine wpList_store_row rfl 32 (.tmp 2) (.tmp 45) rfl w.heap.size _ rfl rfl 32 _ G5.out (by kernel_rfl) rfl (dot_one _ _) ?_))
          exact bodyPost_ret (results_cell2 Tryd.results68 _ _ w.heap.size 32 _ (0, 0) _ _ rfl rfl (setRow_heap _ _ _ _ _ _ G5.out) Tryd.underlying32 rfl (by kernel_rfl)) rfl ⟨by rw [HR.out.1, HR.out.2.1, HR.out.2.2]; rfl, below_setRow B5.out (Nat.le_refl _) _⟩
      · have t2 : (e2 != 0) = true := bne_iff_ne.2 z2
        have hd : isDot s = false := by rw [HD.out, show (e2 == 0) = false from beq_eq_false_iff_ne.2 z2]; simp
        have HR := Lib.hid (show parR s = 0 ∧ parQ s = 0 ∧ parErr s = 2 by have h := HP.out; rw [hd] at h; exact ⟨h.2.1, h.2.2, h.1⟩)
        clear z2 hd
        go_wp2_with (first
          | (refine build_on (by rfl) 32 #[] rfl _ _ dot_built0 (by simp [Act.eval]) ?_)
          | (refine wpList_store_row rfl 32 (.tmp 2) (.tmp 38) rfl w.heap.size _ rfl rfl 32 _ G3.out (by kernel_rfl) rfl (dot_one _ _) ?_))
        exact bodyPost_ret (results_cell2 Tryd.results68 _ _ w.heap.size 32 _ (0, 0) _ _ rfl rfl (setRow_heap _ _ _ _ _ _ G3.out) Tryd.underlying32 rfl (by kernel_rfl)) rfl ⟨by rw [HR.out.1, HR.out.2.1, HR.out.2.2]; rfl, below_setRow B3.out (Nat.le_refl _) _⟩
    · have t1 : (e1 != 0) = true := bne_iff_ne.2 z1
      have hd : isDot s = false := by rw [HD.out, show (e1 == 0) = false from beq_eq_false_iff_ne.2 z1]; simp
      have HR := Lib.hid (show parR s = 0 ∧ parQ s = 0 ∧ parErr s = 2 by have h := HP.out; rw [hd] at h; exact ⟨h.2.1, h.2.2, h.1⟩)
      clear z1 hd
      go_wp2_with (first
        | (refine build_on (by rfl) 32 #[] rfl _ _ dot_built0 (by simp [Act.eval]) ?_)
        | (refine wpList_store_row rfl 32 (.tmp 2) (.tmp 38) rfl w.heap.size _ rfl rfl 32 _ G3.out (by kernel_rfl) rfl (dot_one _ _) ?_))
      exact bodyPost_ret (results_cell2 Tryd.results68 _ _ w.heap.size 32 _ (0, 0) _ _ rfl rfl (setRow_heap _ _ _ _ _ _ G3.out) Tryd.underlying32 rfl (by kernel_rfl)) rfl ⟨by rw [HR.out.1, HR.out.2.1, HR.out.2.2]; rfl, below_setRow B3.out (Nat.le_refl _) _⟩
end Go.Proofs.YthkojphgjlojgaaDoor
namespace Go.Proofs.YthkojphgjlojgaaDoor
open Go.RowKit Go.Shelf
attribute [local go_sem] Oper.semAt_some
/-- A row loaded in a round. -/
theorem load_row_in {F : Fence} {n : Nat} {P : Program} {ops : Array Oper} {rest : List Oper} {o : Oper} {a : Act} {w : World} {Q : Exit → Act → World → Prop} (hw : Region.wanted o (yielded ops a.tmps) = true) (ty : TypeId) (x : Operand) (ho : o.op = .load ty x)
    (g : Nat) (hx : a.eval x = .pointer (some ⟨g, 0, none⟩)) (t : TypeId) (cs : Array Value) (fr : Nat × Nat) (d : TypeDesc) (hg : w.heap[g]? = some (.cells cs t fr))
    (hu : P.underlying ty = some d) (hd : (match d with | .struct _ | .array _ _ => true | _ => false) = true) (hi : (P.info? ty).map (·.size) = some cs.size)
    (h : wpListIn F n P ops Q rest (a.put o.dst (.agg cs)) w) : wpListIn F n P ops Q (o :: rest) a w := by
  refine wpListIn_step fun K hK => ?_
  rw [if_pos hw]
  unfold Oper.wpIn
  refine ⟨by simp [Oper.about, ho], ?_⟩
  rw [Oper.semAt_plain F _ _ (by rw [ho]; intro c hc'; cases hc')]
  simp [execOp, ho, hx, Instr.loadAt, Instr.sureAddr, run_loadVar_row w g t ty cs fr d hg hu hd hi, Result.andThen]
  exact hK _ _ h
/-- A dot appended to a slice of dots of the call's own, in a round. -/
theorem append_dot_in {F : Fence} {n : Nat} {P : Program} {w : World} {ops : Array Oper} {rest : List Oper} {o : Oper} {a : Act} {Q : Exit → Act → World → Prop} (hgd : o.guard = none) (s x : Operand) (t : TypeId)
    (ho : o.op = .call { callee := .builtin .append, args := #[s, x], argTypes := #[t, t] })
    (base : Nat) (e : TypeId) (i : TypeInfo) (ht : P.underlying t = some (.slice e)) (hi : P.info? e = some i) (hz : (i.zero.map (·.cells.size), i.size, i.bytes) = (some 2, 2, 16))
    (v : Value) (l : List D2) (d : D2) (hs : a.eval s = v) (hown : w.ownsRow base e 2 v l.length (dotsC l)) (g c : Nat) (hx : a.eval x = .slice (some ⟨g, 0, none⟩) 1 c)
    (u : TypeId) (hg : w.heap[g]? = some (.cells #[.int .i64 d.1, .int .i64 d.2] u (0, 0))) (hlen : l.length + 1 ≤ 2000000) (hbase : base ≤ w.heap.size)
    (h : ∀ v' w', w'.ownsRow base e 2 v' (l ++ [d]).length (dotsC (l ++ [d])) → w.grownBy w' v.ownBlock → wpListIn F n P ops Q rest (a.put o.dst v') w') : wpListIn F n P ops Q (o :: rest) a w := by
  simp only [Prod.mk.injEq] at hz
  obtain ⟨hz1, hz2, hz3⟩ := hz
  cases hzz : i.zero with
  | none => rw [hzz] at hz1; cases hz1
  | some z =>
    rw [hzz] at hz1
    simp only [Option.map_some, Option.some.injEq] at hz1
    refine wpListIn_append_own w hgd s x t ho base e i z 2 16 ht hi hzz hz2 hz3 hz1 (by decide) v l.length (dotsC l) hs hown ⟨g, 0, none⟩ 1 c (dotsC [d]) hx rfl (fun j u hj => ?_) (fun u hu => dotsC_one [d] u hu)
      (by unfold maxLen; omega) (by omega) hbase fun v' w' h1 h2 _ => h v' w' (by rw [dotsC_append, List.length_append]; exact h1) h2
    match j, hj with
    | 0, hj => exact ((cell_of_row _ _ 0 _ _ _ hg).trans rfl).trans hj
    | 1, hj => rw [Addr.add_lit]; exact ((cell_of_row _ _ (0 + 1) _ _ _ hg).trans rfl).trans hj
theorem keeps_below {n : Nat} {W W' : World} (h : Below n W W') (hn : n = W.heap.size) : KeepsOthers W W' :=
  ⟨h.size, fun k o hk _ => (h.block k (by rw [hn]; exact (Array.getElem?_eq_some_iff.1 hk).1)).trans hk⟩
theorem keep3_low {B g : Nat} (W : World) (v : Value) (hg : g < B) : Keep3 B W (W.setCell ⟨g, 0, none⟩ v) := fun k h1 _ => heap_setCell_other _ _ _ _ (by show k ≠ g; omega)
/-- Behind an append to a slice that a variable holds: the variable, the row, and what lay ahead of both. -/
theorem appended10 {W w1 : World} {n₀ B size : Nat} {t e : TypeId} {v v' : Value} {k m : Nat} {xs ys : List Value} {tmp : Obj} (hv : Boxed W B t v) (hte : t ≠ e) (hrow : W.ownsRow n₀ e size v k xs) (hn : n₀ ≤ W.heap.size) (hown' : w1.ownsRow n₀ e size v' m ys) (hgrow : (W.alloc tmp).grownBy w1 v.ownBlock) :
    Boxed w1 B t v ∧ Boxed (w1.setCell ⟨B, 0, none⟩ v') B t v' ∧ (w1.setCell ⟨B, 0, none⟩ v').ownsRow n₀ e size v' m ys ∧ KeepsOthers W (w1.setCell ⟨B, 0, none⟩ v') ∧ Below n₀ W w1 := by
  have h1 : Boxed w1 B t v := (hv.alloc tmp).kept hgrow (hv.not_row hte hrow)
  have hcells : ∀ j o, v.ownBlock = some j → (W.alloc tmp).heap[j]? = some o → o.isCells = true ∧ n₀ ≤ j := fun j o ej hj => by
    rcases (hrow.alloc tmp).2 with ⟨rfl, _⟩ | ⟨g, cap, cur, rfl, hb, hgb, _⟩
    · simp [Value.ownBlock] at ej
    · obtain rfl : g = j := by simpa [Value.ownBlock] using ej
      rw [hgb] at hj; cases hj; exact ⟨rfl, hb⟩
  have hrows : ∀ j, v.ownBlock = some j → n₀ ≤ j := fun j ej => (hrow.lt j ej).1
  exact ⟨h1, h1.set v', hown'.kept (grownBy_setCell' w1 B v') (.inr (h1.not_row hte hown').symm),
    ((KeepsOthers.alloc W tmp).trans (KeepsOthers.of_grownBy hgrow fun j o ej hj => (hcells j o ej hj).1)).trans (KeepsOthers.setCell _ _ _),
    ((Below.refl n₀ W).alloc hn tmp).grown hgrow (by simp; omega) fun j ej => hrows j ej⟩
/-- The two results' blocks. -/
def Res2 (g : Nat) (W : World) (x y : Value) : Prop := Boxed W g 26 x ∧ Boxed W (g + 1) 49 y
theorem res2_below {g n : Nat} {W W' : World} {x y : Value} (h : Res2 g W x y) (hb : Below n W W') (hn : g + 2 ≤ n) : Res2 g W' x y := ⟨(hb.block g (by omega)).trans h.1, (hb.block (g + 1) (by omega)).trans h.2⟩
theorem res2_set {g : Nat} {W : World} {x y : Value} (h : Res2 g W x y) (x' y' : Value) : Res2 g ((W.setCell ⟨g, 0, none⟩ x').setCell ⟨g + 1, 0, none⟩ y') x' y' := ⟨(h.1.set x').other (by omega) y', (h.2.other (by omega) x').set y'⟩
theorem res2_far {g k : Nat} {W : World} {x y : Value} (h : Res2 g W x y) (hk : g + 2 ≤ k) (u : Value) : Res2 g (W.setCell ⟨k, 0, none⟩ u) x y := ⟨h.1.other (by omega) u, h.2.other (by omega) u⟩
theorem res2_own {g : Nat} {A B : World} {x y : Value} {row : Option Nat} (h : Res2 g A x y) (hg : A.grownBy B row) (hr : ∀ r, row = some r → ∃ o : Obj, A.heap[r]? = some o ∧ o.isCells = false) : Res2 g B x y := by
  have key : ∀ {b : Nat} {t : TypeId} {v : Value}, Boxed A b t v → Boxed B b t v := fun hv => hv.kept hg (fun e => by
    obtain ⟨o, ho, hc⟩ := hr _ e.symm
    rw [show A.heap[_]? = _ from hv] at ho; cases ho; cases hc)
  exact ⟨key h.1, key h.2⟩
theorem set2_below {n g : Nat} {A B : World} (h : Below n A B) (hg : n ≤ g) (x y : Value) : Below n A ((B.setCell ⟨g, 0, none⟩ x).setCell ⟨g + 1, 0, none⟩ y) := (h.setCell (p := ⟨g, 0, none⟩) hg x).setCell (p := ⟨g + 1, 0, none⟩) (by show n ≤ g + 1; omega) y
/-- The pieces that have come, and the dots of them. -/
def got {s : List UInt8} (pre : List (Pc s)) : List (List UInt8) := pre.map (·.1)
def gotD {s : List UInt8} (pre : List (Pc s)) : List D2 := (got pre).map dotOf
theorem got_snoc {s : List UInt8} (pre : List (Pc s)) (x : Pc s) : got (pre ++ [x]) = got pre ++ [x.1] := List.map_append
theorem gotD_snoc {s : List UInt8} (pre : List (Pc s)) (x : Pc s) : gotD (pre ++ [x]) = gotD pre ++ [dotOf x.1] := by rw [gotD, got_snoc, List.map_append]; rfl
theorem good_len {ps : List (List UInt8)} (h : goodP ps = true) : (ps.map dotOf).length ≤ 32 := by
  rw [goodP, Bool.and_eq_true] at h; exact rising_length h.2
set_option maxRecDepth 100000 in
set_option maxHeartbeats 16000000 in
theorem vecParse_typ (s : List UInt8) (hs : s.length < 1152921504606846976) (w : World) : Calls Tryd.prog 69 #[.string (str s)] w fun e w' => ∃ v, e = .returned (.tuple #[v, .int .i64 (parVErr s)]) ∧ TypDots w' v (parV s) ∧ Below w.heap.size w w' := by
  obtain ⟨i0, hi, hz⟩ := infoDot
  have s2 : (str s).toList = s := str_toList s
  have s3 : (ByteArray.mk #[45]).toList = [45] := ByteArray.toList_mk _
  by_cases h45 : s = [45]
  · have HP := Lib.hid (show parVErr s = 0 ∧ parV s = [] by rw [h45]; exact par_hyphen)
    have q1 : (s == [45]) = true := by rw [h45]; rfl
    clear h45 hs
    go_enter Tryd.func69, Tryd.ntmps69
    go_wp2
    have r0 := cell_of_one (alloc2_0 w (.cells #[.slice none 0 0] 26 (0, 0)) (.cells #[.int .i64 0] 49 (0, 0)))
    have r1 := cell_of_one (alloc2_1 w (.cells #[.slice none 0 0] 26 (0, 0)) (.cells #[.int .i64 0] 49 (0, 0)))
    refine bodyPost_ret (v := .tuple #[.slice none 0 0, .int .i64 0]) (by simp [results, Tryd.f69, go_sem, r0, r1]) rfl ?_
    exact ⟨_, by rw [HP.out.1], by rw [HP.out.2]; exact typ_nil _, ((Below.refl w.heap.size w).alloc (Nat.le_refl _) _).alloc (by simp) _⟩
  · have q1 : (s == [45]) = false := by rw [beq_eq_false_iff_ne]; exact h45
    have HH := Lib.hid h45
    have HS := Lib.hid hs
    have SQ := Lib.hid (fun w => splitSeq_any s w)
    have PX := Lib.hid (fun (x : Pc s) w => parse_any9 x.1 (Nat.lt_of_le_of_lt x.2 hs) w)
    have H0 := Lib.hid (And.intro (alloc3_0 w (.cells #[.slice none 0 0] 26 (0, 0)) (.cells #[.int .i64 0] 49 (0, 0)) (.cells #[.slice none 0 0] 26 (0, 0))) (And.intro (alloc3_1 w (.cells #[.slice none 0 0] 26 (0, 0)) (.cells #[.int .i64 0] 49 (0, 0)) (.cells #[.slice none 0 0] 26 (0, 0))) (alloc3_2 w (.cells #[.slice none 0 0] 26 (0, 0)) (.cells #[.int .i64 0] 49 (0, 0)) (.cells #[.slice none 0 0] 26 (0, 0)))))
    have Z0 := Lib.hid (show (((w.alloc (.cells #[.slice none 0 0] 26 (0, 0))).alloc (.cells #[.int .i64 0] 49 (0, 0))).alloc (.cells #[.slice none 0 0] 26 (0, 0))).heap.size = w.heap.size + 3 by simp)
    have B0 := Lib.hid ((((Below.refl w.heap.size w).alloc (Nat.le_refl _) (.cells #[.slice none 0 0] 26 (0, 0))).alloc (by simp) (.cells #[.int .i64 0] 49 (0, 0))).alloc (by simp; omega) (.cells #[.slice none 0 0] 26 (0, 0)))
    clear h45 hs
    refine (callsIn_wide (n := 6)).1 ?_
    refine callsIn_of_wp_marks Tryd.func69 rfl trivial ?_ rfl
    simp only [Tryd.ntmps69, List.size_toArray, List.length_cons, List.length_nil, Nat.reduceAdd, Nat.reduceSub, Array.replicate_succ, Array.replicate_zero, List.push_toArray, List.append_toArray, List.nil_append, List.cons_append]
    refine wpIn_wide.2 ?_
    go_wp2_with (first | (go_at_call 88; generalize (((w.alloc (.cells #[.slice none 0 0] 26 (0, 0))).alloc (.cells #[.int .i64 0] 49 (0, 0))).alloc (.cells #[.slice none 0 0] 26 (0, 0))) = W0 at *; refine (SQ.out _).mono ?_; rintro e w1 ⟨rfl, hb⟩; have HQ := Lib.hid hb; clear hb))
    have b0 := HQ.out.2.2.1
    have b1 := HQ.out.2.2.2.1
    have b2 := HQ.out.2.2.2.2
    have hsz : w1.heap.size = w.heap.size + 3 + 3 := by rw [HQ.out.2.1, Z0.out]
    rw [Z0.out] at b0 b1 b2
    have R0 := Lib.hid (show Res2 w.heap.size w1 (.slice none 0 0) (.int .i64 0) from ⟨(HQ.out.1.block _ (by rw [Z0.out]; omega)).trans H0.out.1, (HQ.out.1.block _ (by rw [Z0.out]; omega)).trans H0.out.2.1⟩)
    have V0 := Lib.hid (show Boxed w1 (w.heap.size + 1 + 1) 26 (.slice none 0 0) from (HQ.out.1.block _ (by rw [Z0.out]; omega)).trans H0.out.2.2)
    have B1 := Lib.hid (B0.out.trans (HQ.out.1.mono (by rw [Z0.out]; omega)))
    rw [Z0.out]
    clear q1 s2 s3
    refine (wpIn_wide (n := 6)).1 ?_
    refine range_cells (F := Fence.wide) rfl (by decide) (gf := 123) (lb := #[.pointer (some ⟨w.heap.size + 3 + 1, 0, none⟩), .pointer (some ⟨w.heap.size + 3, 0, none⟩), .pointer (some ⟨w.heap.size + 3 + 2, 0, none⟩)]) rfl trivial (enters_of Tryd.func123 (by kernel_rfl) rfl)
      (B := w.heap.size + 3) (by omega) (seq10 5 (by decide) (w.heap.size + 3) s HS.out w1 (by omega) b0 b1 b2) (fun _ => rfl)
      (fun pre W => ((∃ v, Boxed W (w.heap.size + 1 + 1) 26 v ∧ W.ownsRow w1.heap.size 32 2 v (gotD pre).length (dotsC (gotD pre)) ∧ True) ∧ (Res2 w.heap.size W (.slice none 0 0) (.int .i64 0) ∧ goodP (got pre) = true ∧ w1.heap.size ≤ W.heap.size)) ∧ Below w.heap.size w W)
      (fun pre W => (Res2 w.heap.size W (.slice none 0 0) (.int .i64 2) ∧ goodP (got pre) = false) ∧ Below w.heap.size w W)
      (OwnFrom.and (OwnFrom.and (Own.from (holdsRow_own w1.heap.size (w.heap.size + 1 + 1) 26 32 2 (fun pre => (gotD pre).length) (fun pre => dotsC (gotD pre)) (fun _ _ => True)) _) (Own.from (fun _ A B row hs hg hr => ⟨res2_own hs.1 hg hr, hs.2.1, Nat.le_trans hs.2.2 hg.size⟩) _)) (ownFrom_below (Nat.le_refl _) (by omega)))
      (OwnFrom.and (Own.from (fun _ A B row hs hg hr => ⟨res2_own hs.1 hg hr, hs.2⟩) _) (ownFrom_below (Nat.le_refl _) (by omega)))
      (fun pre W u h => by
        obtain ⟨⟨⟨v, hv, hr, -⟩, hR, hg, hz⟩, hB⟩ := h
        exact ⟨⟨⟨v, hv.other (by omega) u, ownsRow_setCell_other hr (a := ⟨w.heap.size + 3, 0, none⟩) (fun e => by have := (hr.lt _ e).1; simp only at this; omega) u, trivial⟩, res2_far hR (by omega) u, hg, Nat.le_trans hz (KeepsOthers.setCell W _ _).size⟩, hB.setCell (p := ⟨w.heap.size + 3, 0, none⟩) (by show w.heap.size ≤ w.heap.size + 3; omega) u⟩)
      ⟨⟨⟨.slice none 0 0, V0.out, World.ownsRow_nil _ _ _ _, trivial⟩, R0.out, goodP_nil, Nat.le_refl _⟩, B1.out⟩
      (fun x => { tmps := #[.string (str s), undef, .pointer (some ⟨w.heap.size, 0, none⟩), .pointer (some ⟨w.heap.size + 1, 0, none⟩), .pointer (some ⟨w.heap.size + 1 + 1, 0, none⟩), .string (str x.1), undef, undef, .string (str s), .bool false, .string (str s),
        .func (.func 123) #[] #[.pointer (some ⟨w.heap.size + 3 + 1, 0, none⟩), .pointer (some ⟨w.heap.size + 3, 0, none⟩), .pointer (some ⟨w.heap.size + 3 + 2, 0, none⟩)], .string (str x.1), undef, undef, undef, undef, undef, undef, undef, undef, undef, undef, undef, undef, undef, undef, undef, undef, undef, undef], defers := [] }) ?assign ?body ?done ?stop
    case assign =>
      intro l x W K hK
      gi_wp2
      exact hK
    case body =>
      rintro l pre x W ⟨⟨⟨v, hv, hr, -⟩, hR, hg, hlow⟩, hB⟩ hlen
      obtain ⟨ao, cap, rfl⟩ := own_slice hr
      obtain ⟨k, hk⟩ : ∃ k, k = (gotD pre).length := ⟨_, rfl⟩
      have HK := Lib.hid hk
      have HL := Lib.hid (good_len hg)
      have HO := Lib.hid (show W.ownsRow w1.heap.size 32 2 (.slice ao k cap) (gotD pre).length (dotsC (gotD pre)) by rw [hk]; exact hr)
      rw [← hk] at hv
      have HV := Lib.hid hv
      have HR := Lib.hid hR
      have HG := Lib.hid hg
      have HB := Lib.hid hB
      have HSZ := Lib.hid (show w.heap.size + 2 ≤ W.heap.size by omega)
      have HSZ2 := Lib.hid (show w.heap.size + 1 + 1 < W.heap.size by omega)
      have HLOW := Lib.hid (And.intro hlow hsz)
      have PXx := Lib.hid (fun w => PX.out x w)
      obtain ⟨r, hr'⟩ : ∃ r, r = parR x.1 := ⟨_, rfl⟩
      obtain ⟨q, hq'⟩ : ∃ q, q = parQ x.1 := ⟨_, rfl⟩
      obtain ⟨E, hE⟩ : ∃ E, E = parErr x.1 := ⟨_, rfl⟩
      rw [← hr', ← hq', ← hE] at PXx
      have HD := Lib.hid (show dotOf x.1 = (r, q) by rw [dotOf, hr', hq'])
      have HGS := Lib.hid (goodP_snoc (got pre) x.1)
      rw [← got_snoc, ← hE, HD.out] at HGS
      clear hv hr hR hg hB hlen hlow hk hr' hq' b0 b1 b2 hsz
      by_cases hE0 : E = 0
      · subst hE0
        have DD := Lib.hid (dots_of_own HO.out)
        have MF := Lib.hid (fun w hv => mayFollow_any (gotD pre) (by have h : (gotD pre).length ≤ 32 := HL.out; omega) r q (.slice ao k cap) w hv)
        obtain ⟨B, hB'⟩ : ∃ B, B = fol (gotD pre) (r, q) := ⟨_, rfl⟩
        rw [← hB'] at MF
        have HGB := Lib.hid (show goodP (got (pre ++ [x])) = B by rw [HGS.out, HG.out, hB']; rfl)
        clear hE hB'
        cases B with
        | false =>
          gi_wp2_with (first
            | (refine ⟨trivial, ?_⟩; gi_at_call 68; refine (CallsIn.inRound l (callsIn_wide.2 (PXx.out _))).mono ?_; rintro e w2 ⟨rfl, hb⟩; have B2 := Lib.hid hb; have K3 := Lib.hid ((hb.alloc hb.size (.cells #[.int .i64 r, .int .i64 q] 32 (0, 0)))); have R3 := Lib.hid (res2_below HR.out K3.out HSZ.out); have V3 := Lib.hid (show Boxed (w2.alloc (.cells #[.int .i64 r, .int .i64 q] 32 (0, 0))) (w.heap.size + 1 + 1) 26 (.slice ao k cap) from (K3.out.block _ HSZ2.out).trans HV.out); have O3 := Lib.hid (own_below HO.out K3.out); have c0 := R3.out.1.cell; have f0 := R3.out.1.frozen; have c1 := R3.out.2.cell; have f1 := R3.out.2.frozen; have c2 := V3.out.cell; have f2 := V3.out.frozen; clear hb)
            | (refine load_row_in (by rfl) 32 (.tmp 6) rfl w2.heap.size rfl 32 _ (0, 0) _ (heap_last w2 _) Tryd.underlying32 rfl (by kernel_rfl) ?_)
            | (refine ⟨trivial, ?_⟩; gi_at_call 78; refine (CallsIn.inRound l (callsIn_wide.2 (MF.out _ (dots_below DD.out K3.out)))).mono ?_; rintro e w4 ⟨rfl, hb⟩; have B4 := Lib.hid hb; have K4 := Lib.hid (K3.out.trans (hb.mono K3.out.size)); have R4 := Lib.hid (res2_below HR.out K4.out HSZ.out); have V4 := Lib.hid (show Boxed w4 (w.heap.size + 1 + 1) 26 (.slice ao k cap) from (K4.out.block _ HSZ2.out).trans HV.out); have O4 := Lib.hid (own_below HO.out K4.out); have D4 := Lib.hid (row_kept (heap_last w2 (.cells #[.int .i64 r, .int .i64 q] 32 (0, 0))) hb); have c0 := R4.out.1.cell; have f0 := R4.out.1.frozen; have c1 := R4.out.2.cell; have f1 := R4.out.2.frozen; have c2 := V4.out.cell; have f2 := V4.out.frozen; clear hb))
          exact ⟨(keeps_below K4.out rfl).trans ((KeepsOthers.setCell _ _ _).trans (KeepsOthers.setCell _ _ _)), ⟨res2_set R4.out _ _, HGB.out⟩, set2_below (HB.out.trans (K4.out.mono HB.out.size)) (Nat.le_refl _) _ _⟩
        | true =>
          gi_wp2_with (first
            | (refine ⟨trivial, ?_⟩; gi_at_call 68; refine (CallsIn.inRound l (callsIn_wide.2 (PXx.out _))).mono ?_; rintro e w2 ⟨rfl, hb⟩; have B2 := Lib.hid hb; have K3 := Lib.hid ((hb.alloc hb.size (.cells #[.int .i64 r, .int .i64 q] 32 (0, 0)))); have R3 := Lib.hid (res2_below HR.out K3.out HSZ.out); have V3 := Lib.hid (show Boxed (w2.alloc (.cells #[.int .i64 r, .int .i64 q] 32 (0, 0))) (w.heap.size + 1 + 1) 26 (.slice ao k cap) from (K3.out.block _ HSZ2.out).trans HV.out); have O3 := Lib.hid (own_below HO.out K3.out); have c0 := R3.out.1.cell; have f0 := R3.out.1.frozen; have c1 := R3.out.2.cell; have f1 := R3.out.2.frozen; have c2 := V3.out.cell; have f2 := V3.out.frozen; clear hb)
            | (refine load_row_in (by rfl) 32 (.tmp 6) rfl w2.heap.size rfl 32 _ (0, 0) _ (heap_last w2 _) Tryd.underlying32 rfl (by kernel_rfl) ?_)
            | (refine ⟨trivial, ?_⟩; gi_at_call 78; refine (CallsIn.inRound l (callsIn_wide.2 (MF.out _ (dots_below DD.out K3.out)))).mono ?_; rintro e w4 ⟨rfl, hb⟩; have B4 := Lib.hid hb; have K4 := Lib.hid (K3.out.trans (hb.mono K3.out.size)); have R4 := Lib.hid (res2_below HR.out K4.out HSZ.out); have V4 := Lib.hid (show Boxed w4 (w.heap.size + 1 + 1) 26 (.slice ao k cap) from (K4.out.block _ HSZ2.out).trans HV.out); have O4 := Lib.hid (own_below HO.out K4.out); have D4 := Lib.hid (row_kept (heap_last w2 (.cells #[.int .i64 r, .int .i64 q] 32 (0, 0))) hb); have c0 := R4.out.1.cell; have f0 := R4.out.1.frozen; have c1 := R4.out.2.cell; have f1 := R4.out.2.frozen; have c2 := V4.out.cell; have f2 := V4.out.frozen; clear hb)
            | (refine load_row_in (by rfl) 32 (.tmp 6) rfl w2.heap.size rfl 32 _ (0, 0) _ D4.out Tryd.underlying32 rfl (by kernel_rfl) ?_)
            | (gi_at_builtin; refine append_dot_in rfl (.tmp 26) (.tmp 28) 26 rfl w1.heap.size 32 i0 Tryd.underlying26 hi hz (.slice ao k cap) (gotD pre) (r, q) rfl (O4.out.alloc _) w4.heap.size 1 rfl 32 (heap_last w4 _) (by have h : (gotD pre).length ≤ 32 := HL.out; omega) (by have h1 := HLOW.out.1; have h2 := K4.out.size; simp <;> omega) ?_; intro v' w5 hown' hgrow; obtain ⟨g', cap', rfl⟩ := ownsRow_succ (by simpa using hown'); have HA := Lib.hid (appended10 V4.out (by decide) O4.out (Nat.le_trans HLOW.out.1 K4.out.size) hown' hgrow); have c2 := HA.out.1.cell; have f2 := HA.out.1.frozen; clear hown' hgrow))
          have h5 : Below w1.heap.size W w5 := (K4.out.mono HLOW.out.1).trans HA.out.2.2.2.2
          have hz2 := HLOW.out.2
          refine ⟨(keeps_below K4.out rfl).trans HA.out.2.2.2.1, keep3_trans (keep3_below h5 (by omega)) (keep3_low _ _ (by omega)), ⟨⟨_, HA.out.2.1, ?_, trivial⟩, res2_far (res2_below HR.out h5 (by omega)) (by omega) _, HGB.out, Nat.le_trans HLOW.out.1 (Nat.le_trans h5.size (KeepsOthers.setCell _ _ _).size)⟩, (HB.out.trans (h5.mono (by omega))).setCell (p := ⟨w.heap.size + 1 + 1, 0, none⟩) (by show w.heap.size ≤ w.heap.size + 1 + 1; omega) _⟩
          rw [gotD_snoc, HD.out]
          exact HA.out.2.2.1
      · have t1 : (E != 0) = true := bne_iff_ne.2 hE0
        have HF := Lib.hid (show goodP (got (pre ++ [x])) = false by rw [HGS.out, beq_eq_false_iff_ne.2 hE0]; simp)
        clear hE hE0
        gi_wp2_with (first | (refine ⟨trivial, ?_⟩; gi_at_call 68; refine (CallsIn.inRound l (callsIn_wide.2 (PXx.out _))).mono ?_; rintro e w2 ⟨rfl, hb⟩; have B2 := Lib.hid hb; have K3 := Lib.hid ((hb.alloc hb.size (.cells #[.int .i64 r, .int .i64 q] 32 (0, 0)))); have R3 := Lib.hid (res2_below HR.out K3.out HSZ.out); have V3 := Lib.hid (show Boxed (w2.alloc (.cells #[.int .i64 r, .int .i64 q] 32 (0, 0))) (w.heap.size + 1 + 1) 26 (.slice ao k cap) from (K3.out.block _ HSZ2.out).trans HV.out); have O3 := Lib.hid (own_below HO.out K3.out); have c0 := R3.out.1.cell; have f0 := R3.out.1.frozen; have c1 := R3.out.2.cell; have f1 := R3.out.2.frozen; have c2 := V3.out.cell; have f2 := V3.out.frozen; clear hb))
        refine ⟨trivial, ?_⟩
        gi_wp2
        exact ⟨((keeps_below B2.out rfl).trans (KeepsOthers.alloc _ _)).trans ((KeepsOthers.setCell _ _ _).trans (KeepsOthers.setCell _ _ _)), ⟨res2_set R3.out _ _, HF.out⟩, set2_below (HB.out.trans (K3.out.mono HB.out.size)) (Nat.le_refl _) _ _⟩
    case done =>
      rintro D ys W hD hys ⟨⟨⟨v, hv, hr, -⟩, hR, hg, -⟩, hB⟩ hK
      have hgot : got ys = piecesB 44 s := hys
      have HP := Lib.hid (par_good HH.out (by rw [← hgot]; exact hg))
      have HO := Lib.hid (show W.ownsRow w1.heap.size 32 2 v (parV s).length (dotsC (parV s)) by rw [HP.out.2, ← hgot]; exact hr)
      obtain ⟨ao, cap, rfl⟩ := own_slice HO.out
      have HB := Lib.hid hB
      have HR := Lib.hid hR
      have HK := Lib.hid hK
      have HD := Lib.hid (show w1.heap.size ≤ D from hD)
      have HZ := Lib.hid hsz
      have c2 := hv.cell
      have c0 := hR.1.cell
      have f0 := hR.1.frozen
      have c1 := hR.2.cell
      have f1 := hR.2.frozen
      clear hD hB hys hK hR hr hv hg hgot b0 b1 b2 hsz
      obtain ⟨k, hk⟩ : ∃ k, (parV s).length = k := ⟨_, rfl⟩
      rw [hk] at HO c2
      have HKK := Lib.hid hk
      clear hk
      go_wp2
      have hK' := ((KeepsOthers.setCell W ⟨w.heap.size, 0, none⟩ (.slice ao k cap)).trans (KeepsOthers.setCell _ ⟨w.heap.size + 1, 0, none⟩ (.int .i64 0))).same D _ HK.out rfl
      have hC := res2_own (res2_set HR.out (.slice ao k cap) (.int .i64 0)) (grownBy_putObj' _ D (.deferred none)) (fun r e => by cases e; exact ⟨_, hK', rfl⟩)
      have r0 := hC.1.cell
      have r1 := hC.2.cell
      refine ⟨by simp, .inl ⟨_, _, rfl, run_takeDeferred hK', ?_⟩⟩
      refine ⟨.tuple #[.slice ao k cap, .int .i64 0], by simp [results, Tryd.f69, go_sem, r0, r1], _, by rw [HP.out.1], ?_, ?_⟩
      · refine typ_of_own (base := w1.heap.size) ?_
        have hz := HZ.out
        rw [HKK.out]
        exact ownsRow_putObj (ownsRow_setCell_other (ownsRow_setCell_other HO.out (a := ⟨w.heap.size, 0, none⟩) (fun e => by have := (HO.out.lt _ e).1; simp only at this; omega) _) (a := ⟨w.heap.size + 1, 0, none⟩) (fun e => by have := (HO.out.lt _ e).1; simp only at this; omega) _) _ hK' rfl
      · exact (set2_below HB.out (Nat.le_refl _) _ _).trans (belowK_b (w := w) (Nat.le_refl _) _ D _ _ (by have h1 := HZ.out; have h2 := HD.out; omega) hK' rfl rfl)
    case stop =>
      rintro D pre W hD hpre ⟨⟨hR, hg⟩, hB⟩ hK
      have HP := Lib.hid (par_bad HH.out (goodP_prefix (show got pre <+: piecesB 44 s from hpre) hg))
      have hC := res2_own hR (grownBy_putObj' W D (.deferred none)) (fun r e => by cases e; exact ⟨_, hK, rfl⟩)
      have r0 := hC.1.cell
      have r1 := hC.2.cell
      have HB := Lib.hid hB
      have HK := Lib.hid hK
      have HD := Lib.hid (show w.heap.size ≤ D by omega)
      clear hD hB hpre hK hR hg b0 b1 b2 hsz hC
      gi_wp2
      refine ⟨by simp, .inl ⟨_, _, rfl, run_takeDeferred HK.out, ?_⟩⟩
      refine ⟨.tuple #[.slice none 0 0, .int .i64 2], by simp [results, Tryd.f69, go_sem, r0, r1], _, by rw [HP.out.1], by rw [HP.out.2]; exact typ_nil _, ?_⟩
      exact HB.out.trans (belowK_b (w := w) (Nat.le_refl _) _ D _ _ HD.out HK.out rfl rfl)
end Go.Proofs.YthkojphgjlojgaaDoor
namespace Go.Proofs.YthkojphgjlojgaaDoor
open Go.RowKit
theorem built_zero : Tryd.prog.built 34 [] = some (row .u8 32 fun _ => 0#32) := by kernel_rfl
end Go.Proofs.YthkojphgjlojgaaDoor
namespace Go.Proofs.YthkojphgjlojgaaDoor
open Go.RowKit
theorem or_fig : ∀ a, a < 16 → ∀ b, b < 16 → (16 * a ||| b) = 16 * a + b := by decide
theorem or_byte (a b : Nat) (ha : a < 16) (hb : b < 16) : bits .or .u8 ((16 * a : Nat) : Int) (b : Int) = ((16 * a + b : Nat) : Int) := by
  rw [u8_or_nat _ _ (by omega) (by omega), or_fig a ha b hb]
theorem worthI_some {c : UInt8} {n : Nat} (h : fig c = some n) : worthI c = n := by unfold worthI; rw [h]
theorem worthI_none {c : UInt8} (h : fig c = none) : worthI c = 16 := by unfold worthI; rw [h]
/-- What holds where a text that is no digest's is left. -/
def LeftParse (s : List UInt8) (w : World) : Act → World → Prop := fun a' w' => (∃ u0' u1' u3' u4' u5' u6' u7' u8' u9' u10' u11' u12' u13' u14' u15' u16' u17' u18' u19' u20' u21' u22' u23' u24' u25' u26' u27' u28' u29' u30' u31' u32' u33' u34' u35' u36' u37' u38' u39' : Value, a' = { tmps := #[u0', u1', .pointer (some ⟨w.heap.size, 0, none⟩), u3', u4', u5', u6', u7', u8', u9', u10', u11', u12', u13', u14', u15', u16', u17', u18', u19', u20', u21', u22', u23', u24', u25', u26', u27', u28', u29', u30', u31', u32', u33', u34', u35', u36', u37', u38', u39'], defers := [] }) ∧ isText s = false ∧ w'.heap[w.heap.size]? = some (.cells (row .u8 32 fun _ => 0#32) 34 (0, 0)) ∧ Below w.heap.size w w'
set_option maxRecDepth 100000 in
set_option maxHeartbeats 8000000 in
theorem parse_any (w : World) (s : List UInt8) : Calls Tryd.prog 70 #[.string (str s)] w fun e w' => e = .returned (.tuple #[rowV .u8 32 (parsed s), .int .i64 (parseErr s)]) ∧ Below w.heap.size w w' := by
  have H0 := alloc2_0 w (.cells (row .u8 32 fun _ => 0#32) 34 (0, 0)) (.cells (row .u8 32 fun _ => 0#32) 34 (0, 0))
  have H1 := alloc2_1 w (.cells (row .u8 32 fun _ => 0#32) 34 (0, 0)) (.cells (row .u8 32 fun _ => 0#32) 34 (0, 0))
  have B0 : Below w.heap.size w ((w.alloc (.cells (row .u8 32 fun _ => 0#32) 34 (0, 0))).alloc (.cells (row .u8 32 fun _ => 0#32) 34 (0, 0))) := ((Below.refl _ _).alloc (Nat.le_refl _) _).alloc (by simp) _
  have HH := Lib.hid (And.intro H0 (And.intro H1 B0))
  have hsz : (str s).size = s.length := str_size s
  clear H0 H1 B0
  go_enter Tryd.func70, Tryd.ntmps70
  go_wp2
  refine wp_scope_jumps 0 (LeftParse s w) (fun _ _ => 0) rfl ?_ ?_
  · by_cases h64 : s.length = 64
    · go_wp2
      go_loopw [5, 11] (fun _ c wr => ∃ k : Nat, k ≤ 32 ∧ c = .int .i64 k ∧ wr.heap[w.heap.size]? = some (.cells (row .u8 32 fun _ => 0#32) 34 (0, 0)) ∧ wr.heap[w.heap.size + 1]? = some (.cells (row .u8 32 (upTo (parseF s) k)) 34 (0, 0)) ∧ (∀ j, j < 2 * k → ∀ c, s[j]? = some c → (fig c).isSome = true) ∧ Below w.heap.size w wr) (fun _ c _ => 32 - (intOf c).toNat)
      case atStart => exact ⟨0, by omega, rfl, HH.out.1, by rw [upTo_zero]; exact HH.out.2.1, fun j hj => by omega, HH.out.2.2⟩
      case round =>
        clear HH
        obtain ⟨k, hk, rfl, hz, hd, hall, hb⟩ := hrel
        have HZ := Lib.hid hz
        have HD := Lib.hid hd
        have HA := Lib.hid hall
        have HB := Lib.hid hb
        by_cases h32 : k < 32
        · have q0 : (k : Int) < 32 := by omega
          obtain ⟨j0, hj0⟩ : ∃ j0 : Nat, j0 = 2 * k := ⟨_, rfl⟩
          obtain ⟨j1, hj1⟩ : ∃ j1 : Nat, j1 = j0 + 1 := ⟨_, rfl⟩
          have e0 : (2 : Int) * (k : Int) = (j0 : Int) := by omega
          have e1 : (j0 : Int) + 1 = (j1 : Int) := by omega
          have q1 : (j0 : Int) < 64 := by omega
          have ew0 : IntKind.i64.wrap (j0 : Int) = (j0 : Int) := by rw [IntKind.wrap_i64]; omega
          have ew1 : IntKind.i64.wrap (j1 : Int) = (j1 : Int) := by rw [IntKind.wrap_i64]; omega
          obtain ⟨c1, hc1⟩ : ∃ c, s[j0]? = some c := ⟨s[j0], List.getElem?_eq_getElem (by omega)⟩
          obtain ⟨c2, hc2⟩ : ∃ c, s[j1]? = some c := ⟨s[j1], List.getElem?_eq_getElem (by omega)⟩
          have i1 := fun w => index_str (P := Tryd.prog) w s .i64 j0 c1 hc1 Tryd.underlying9
          have i2 := fun w => index_str (P := Tryd.prog) w s .i64 j1 c2 hc2 Tryd.underlying9
          have HJ := Lib.hid (And.intro hj0 (And.intro hj1 (And.intro hc1 hc2)))
          clear hz hd hall hb hj0 hj1 hc1 hc2
          by_cases hf : (fig c1).isSome = true ∧ (fig c2).isSome = true
          · obtain ⟨a, ha⟩ := Option.isSome_iff_exists.1 hf.1
            obtain ⟨b, hb'⟩ := Option.isSome_iff_exists.1 hf.2
            have ha16 := (fig_some ha).1
            have hb16 := (fig_some hb').1
            have hF1 : ∀ w, Calls Tryd.prog 89 #[.int .u8 (c1.toNat : Int)] w fun e w' => e = .returned (.int .u8 (a : Int)) ∧ w = w' := fun w => by have := worth_any c1 w; rwa [worthI_some ha] at this
            have hF2 : ∀ w, Calls Tryd.prog 89 #[.int .u8 (c2.toNat : Int)] w fun e w' => e = .returned (.int .u8 (b : Int)) ∧ w = w' := fun w => by have := worth_any c2 w; rwa [worthI_some hb'] at this
            have HF1 := Lib.hid hF1
            have HF2 := Lib.hid hF2
            have HAB := Lib.hid (And.intro ha hb')
            have t1 : ((a : Int) == 16) = false := by rw [beq_eq_false_iff_ne]; omega
            have t2 : ((b : Int) == 16) = false := by rw [beq_eq_false_iff_ne]; omega
            obtain ⟨p, hp⟩ : ∃ p : Nat, p = 16 * a := ⟨_, rfl⟩
            obtain ⟨q, hq⟩ : ∃ q : Nat, q = p + b := ⟨_, rfl⟩
            have e2 : bits .or .u8 (p : Int) (b : Int) = (q : Int) := by rw [hq, hp]; exact or_byte a b ha16 hb16
            have e3 : (a : Int) * 16 = (p : Int) := by omega
            have e4 : IntKind.u8.wrap (p : Int) = (p : Int) := by rw [IntKind.wrap_u8]; omega
            have e5 : (p : Int) % 256 = (p : Int) := by omega
            have HQ := Lib.hid (show q = 16 * a + b by omega)
            clear ha hb' hf hF1 hF2 ha16 hb16 hp hq
            go_wp2
            go_quiet (first | (go_at_call 89; with_reducible refine quiet_same (HF1.out _)) | (go_at_call 89; with_reducible refine quiet_same (HF2.out _)))
            go_wp2_with (first
              | (refine store_cell rfl 5 (.tmp 36) (.tmp 35) rfl rfl .u8 (w.heap.size + 1) k _ _ _ HD.out rfl rfl (by rw [row_size]; omega) (by kernel_rfl) ?_; intro w3 hg3 hs3))
            have hs := hs3
            obtain ⟨hj0, hj1, hc1, hc2⟩ := HJ.out
            refine ⟨⟨k + 1, by omega, by go_num, (hs.block _ (by omega)).trans HZ.out, ?_, fun j hj c hc => ?_, (below_draws HB.out nq).trans ⟨hs.os, hs.tape, hs.output, Nat.le_of_eq hs.size.symm, fun j hj => hs.block j (by omega)⟩⟩, by simp [intOf]; omega⟩
            · have e : (parseF s k).toNat = q := by
                rw [parseF_toNat, List.getD_eq_getElem?_getD, List.getD_eq_getElem?_getD, ← hj0, ← hj1, hc1, hc2, Option.getD_some, Option.getD_some, HAB.out.1, HAB.out.2, Option.getD_some, Option.getD_some, HQ.out]
              rw [hg3, ← upTo_set, show (q : Int) = Go.Proofs.YthkojphgjlojgaaDoor.u32 (parseF s k) from by unfold Go.Proofs.YthkojphgjlojgaaDoor.u32; rw [e]]
            · rcases Nat.lt_or_ge j (2 * k) with h | h
              · exact HA.out j h c hc
              · rcases Nat.lt_or_ge j (2 * k + 1) with h' | h'
                · obtain rfl : j = j0 := by omega
                  rw [hc1] at hc; cases hc; rw [HAB.out.1]; rfl
                · obtain rfl : j = j1 := by omega
                  rw [hc2] at hc; cases hc; rw [HAB.out.2]; rfl
          · have hbad : isText s = false := by
              obtain ⟨hj0, hj1, hc1, hc2⟩ := HJ.out
              cases h : isText s with
              | false => rfl
              | true =>
                simp only [isText, Bool.and_eq_true, beq_iff_eq, List.all_eq_true] at h
                exact absurd ⟨h.2 c1 (List.mem_of_getElem? hc1), h.2 c2 (List.mem_of_getElem? hc2)⟩ hf
            have HBAD := Lib.hid hbad
            clear hbad
            cases h1 : fig c1 with
            | none =>
              obtain ⟨b, hb'⟩ : ∃ b : Nat, worthI c2 = b := ⟨_, rfl⟩
              have HF1 := Lib.hid (show ∀ w, Calls Tryd.prog 89 #[.int .u8 (c1.toNat : Int)] w fun e w' => e = .returned (.int .u8 16) ∧ w = w' from fun w => by have := worth_any c1 w; rwa [worthI_none h1] at this)
              have HF2 := Lib.hid (show ∀ w, Calls Tryd.prog 89 #[.int .u8 (c2.toNat : Int)] w fun e w' => e = .returned (.int .u8 (b : Int)) ∧ w = w' from fun w => by have := worth_any c2 w; rwa [hb'] at this)
              clear h1 hb' hf
              go_wp2
              go_quiet (first | (go_at_call 89; with_reducible refine quiet_same (HF1.out _)) | (go_at_call 89; with_reducible refine quiet_same (HF2.out _)))
              go_wp2
              go_step3
              exact ⟨rfl, ⟨_, _, _, _, _, _, _, _, _, _, _, _, _, _, _, _, _, _, _, _, _, _, _, _, _, _, _, _, _, _, _, _, _, _, _, _, _, _, _, rfl⟩, HBAD.out, HZ.out, below_draws HB.out nq⟩
            | some a =>
              cases h2 : fig c2 with
              | some b => exact absurd ⟨by rw [h1]; rfl, by rw [h2]; rfl⟩ hf
              | none =>
                have ha16 := (fig_some h1).1
                have t1 : ((a : Int) == 16) = false := by rw [beq_eq_false_iff_ne]; omega
                have HF1 := Lib.hid (show ∀ w, Calls Tryd.prog 89 #[.int .u8 (c1.toNat : Int)] w fun e w' => e = .returned (.int .u8 (a : Int)) ∧ w = w' from fun w => by have := worth_any c1 w; rwa [worthI_some h1] at this)
                have HF2 := Lib.hid (show ∀ w, Calls Tryd.prog 89 #[.int .u8 (c2.toNat : Int)] w fun e w' => e = .returned (.int .u8 16) ∧ w = w' from fun w => by have := worth_any c2 w; rwa [worthI_none h2] at this)
                clear h1 h2 hf ha16
                go_wp2
                go_quiet (first | (go_at_call 89; with_reducible refine quiet_same (HF1.out _)) | (go_at_call 89; with_reducible refine quiet_same (HF2.out _)))
                go_wp2
                go_step3
                exact ⟨rfl, ⟨_, _, _, _, _, _, _, _, _, _, _, _, _, _, _, _, _, _, _, _, _, _, _, _, _, _, _, _, _, _, _, _, _, _, _, _, _, _, _, rfl⟩, HBAD.out, HZ.out, below_draws HB.out nq⟩
        · obtain rfl : k = 32 := by omega
          have hgood : isText s = true := by
            simp only [isText, h64, beq_self_eq_true, Bool.true_and, List.all_eq_true]
            intro c hc
            obtain ⟨j, hj, rfl⟩ := List.mem_iff_getElem.1 hc
            exact HA.out j (by omega) _ (List.getElem?_eq_getElem hj)
          obtain ⟨hp1, hp2⟩ := parsed_good hgood
          have HP := Lib.hid (And.intro hp1 hp2)
          rw [upTo_full] at hd
          clear hgood hp1 hp2 hall HD HA HZ HB
          go_wp2_with (first | (refine wpList_load_row rfl 34 (.tmp 4) rfl (w.heap.size + 1) rfl 34 _ (0, 0) _ hd Tryd.underlying34 rfl (by kernel_rfl) ?_) | (refine wpList_store_row rfl 34 (.tmp 2) (.tmp 38) rfl w.heap.size _ rfl rfl 34 _ hz (by kernel_rfl) ((row_size _ _ _).trans (row_size _ _ _).symm) (row_one _ _ _) ?_))
          simp only [Exit.jump]
          exact bodyPost_ret (results_cell2 Tryd.results70 _ _ w.heap.size 34 _ (0, 0) _ _ rfl rfl (setRow_heap _ _ _ _ _ _ hz) Tryd.underlying34 rfl (by kernel_rfl)) rfl ⟨by rw [HP.out.1, HP.out.2]; try rfl, below_setRow hb (by omega) _⟩
    · have hbad : isText s = false := by
        cases h : isText s with
        | false => rfl
        | true => simp only [isText, Bool.and_eq_true, beq_iff_eq] at h; exact absurd h.1 h64
      have hne : ((s.length : Int) == 64) = false := by simp; omega
      clear h64
      go_wp2
      go_step3
      exact ⟨rfl, ⟨_, _, _, _, _, _, _, _, _, _, _, _, _, _, _, _, _, _, _, _, _, _, _, _, _, _, _, _, _, _, _, _, _, _, _, _, _, _, _, rfl⟩, hbad, HH.out.1, HH.out.2.2⟩
  · clear HH hsz
    rintro a' w1 ⟨⟨u0', u1', u3', u4', u5', u6', u7', u8', u9', u10', u11', u12', u13', u14', u15', u16', u17', u18', u19', u20', u21', u22', u23', u24', u25', u26', u27', u28', u29', u30', u31', u32', u33', u34', u35', u36', u37', u38', u39', rfl⟩, hbad, hz, hb⟩
    obtain ⟨hp1, hp2⟩ := parsed_bad hbad
    have HP := Lib.hid (And.intro hp1 hp2)
    have HB := Lib.hid hb
    clear hbad hp1 hp2 hb
    go_wp2_with (first | (refine build_as rfl 34 #[] rfl _ _ built_zero (by simp) ?_) | (refine wpList_store_row rfl 34 (.tmp 2) (.tmp 39) rfl w.heap.size _ rfl rfl 34 _ hz (by kernel_rfl) rfl (row_one _ _ _) ?_))
    simp only [Exit.jump]
    exact bodyPost_ret (results_cell2 Tryd.results70 _ _ w.heap.size 34 _ (0, 0) _ _ rfl rfl (setRow_heap _ _ _ _ _ _ hz) Tryd.underlying34 rfl (by kernel_rfl)) rfl ⟨by rw [HP.out.1, HP.out.2]; try rfl, below_setRow HB.out (by omega) _⟩
end Go.Proofs.YthkojphgjlojgaaDoor
