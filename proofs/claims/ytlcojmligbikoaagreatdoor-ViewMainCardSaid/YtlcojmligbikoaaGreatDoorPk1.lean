/-
Texts that all claims of this seat share, part 1: Vec, Cut, Ref04Num, VecMore, HexaFace, Event, Hist, Texts, Deeds, Dots, OpenDeeds, EventOrd, Stable, Ref06Split, Ref06More.
-/
import Derived.Test.YtlcojmligbikoaaGreatDoorProg
import Derived.StillTailTactics
import Derived.WalkKit
import Derived.Lib.Hide
import Derived.Deep.RegionWith
import Derived.WalkLawsBesides
import Derived.Lib.ItoaNum
import Derived.Lib.LaidTab
import Derived.Lib.Split
import Derived.Lib.IndexBytes
import Derived.Lib.IndexLaws
import Derived.Laws.AppendOwn
import Derived.ProofKit
import Derived.OpenShut
import Derived.Deep.SlicePairs
import Derived.Deep.Slices
import Derived.Laws.DeepStrings4
import Derived.BigQuiet
import Derived.Deep.QuietTactic
import Derived.Test.YtlcojmligbikoaaGreatDoorPk0
namespace Go.Proofs.YtlcojmligbikoaaGreatDoor
open Go.RowKit
abbrev D2 := Int × Int
def mayT (d : D2) : Bool := mayD d.1 d.2
theorem mayT_bd {d : D2} (h : mayT d = true) : 0 ≤ d.1 ∧ d.1 ≤ 31 ∧ 1 ≤ d.2 ∧ d.2 ≤ 1099511627776 := of_decide_eq_true h
/-- How many events of a replica are told. -/
def seen (i : Nat) (m : Int) (d : D2) : Int := if mayT d = true ∧ d.1 = (i : Int) ∧ m < d.2 then d.2 else m
def allV (l : List D2) (i : Nat) : Int := l.foldl (seen i) 0
theorem allV_nil (i : Nat) : allV [] i = 0 := rfl
theorem allV_snoc (l : List D2) (d : D2) (i : Nat) : allV (l ++ [d]) i = seen i (allV l i) d := by simp [allV, List.foldl_append]
theorem allV_take {l : List D2} {k : Nat} (hk : k < l.length) (i : Nat) : allV (l.take (k + 1)) i = seen i (allV (l.take k) i) (l[k]) := by
  rw [List.take_add_one, List.getElem?_eq_getElem hk]; exact allV_snoc _ _ _
theorem fold_bd (i : Nat) (l : List D2) : ∀ m, 0 ≤ m → m ≤ 1099511627776 → 0 ≤ l.foldl (seen i) m ∧ l.foldl (seen i) m ≤ 1099511627776 := by
  induction l with
  | nil => intro m h0 h1; exact ⟨h0, h1⟩
  | cons d t ih =>
    intro m h0 h1
    rw [List.foldl_cons]
    by_cases h : mayT d = true ∧ d.1 = (i : Int) ∧ m < d.2
    · have := mayT_bd h.1
      exact ih _ (by rw [seen, if_pos h]; omega) (by rw [seen, if_pos h]; omega)
    · exact ih _ (by rw [seen, if_neg h]; exact h0) (by rw [seen, if_neg h]; exact h1)
theorem allV_bd (l : List D2) (i : Nat) : 0 ≤ allV l i ∧ allV l i ≤ 1099511627776 := fold_bd i l 0 (by omega) (by omega)
/-- The vector of how many. -/
def ofN (n : Nat → Int) : Nat → List D2
  | 0 => []
  | k + 1 => ofN n k ++ (if 0 < n k then [((k : Int), n k)] else [])
def ofV (n : Nat → Int) : List D2 := ofN n 32
theorem ofN_mem {n : Nat → Int} {k : Nat} {d : D2} (h : d ∈ ofN n k) : ∃ i, i < k ∧ d = ((i : Int), n i) ∧ 0 < n i := by
  induction k with
  | zero => cases h
  | succ k ih =>
    rw [ofN] at h
    rcases List.mem_append.1 h with h | h
    · obtain ⟨i, h1, h2⟩ := ih h; exact ⟨i, by omega, h2⟩
    · by_cases hp : 0 < n k
      · rw [if_pos hp] at h; exact ⟨k, by omega, List.mem_singleton.1 h, hp⟩
      · rw [if_neg hp] at h; cases h
theorem ofN_length (n : Nat → Int) (k : Nat) : (ofN n k).length ≤ k := by
  induction k with
  | zero => exact Nat.le_refl _
  | succ k ih => rw [ofN, List.length_append]; split <;> simp <;> omega
theorem ofN_congr {n m : Nat → Int} {k : Nat} (h : ∀ i, i < k → n i = m i) : ofN n k = ofN m k := by
  induction k with
  | zero => rfl
  | succ k ih => rw [ofN, ofN, ih (fun i hi => h i (by omega)), h k (by omega)]
/-- Numbers that may be events' numbers. -/
def Cnt (n : Nat → Int) : Prop := ∀ i, i < 32 → 0 ≤ n i ∧ n i ≤ 1099511627776
theorem allV_cnt (l : List D2) : Cnt (allV l) := fun i _ => allV_bd l i
theorem allV_ofN {n : Nat → Int} (h : Cnt n) (i : Nat) : ∀ k, k ≤ 32 → allV (ofN n k) i = if i < k then n i else 0 := by
  intro k
  induction k with
  | zero => intro _; rw [if_neg (by omega)]; rfl
  | succ k ih =>
    intro hk
    have hi := ih (by omega)
    have hc := h k (by omega)
    rw [ofN]
    by_cases hp : 0 < n k
    · rw [if_pos hp, allV_snoc, hi, seen]
      by_cases e : i = k
      · subst e
        rw [if_neg (Nat.lt_irrefl _), if_pos ⟨decide_eq_true (by simp only; omega), rfl, hp⟩, if_pos (by omega)]
      · rw [if_neg (fun hh => e (by have := hh.2.1; simp only at this; omega))]
        by_cases h1 : i < k
        · rw [if_pos h1, if_pos (by omega)]
        · rw [if_neg h1, if_neg (by omega)]
    · rw [if_neg hp, List.append_nil, hi]
      by_cases e : i = k
      · subst e
        rw [if_neg (Nat.lt_irrefl _), if_pos (by omega)]; omega
      · by_cases h1 : i < k
        · rw [if_pos h1, if_pos (by omega)]
        · rw [if_neg h1, if_neg (by omega)]
theorem allV_ofV {n : Nat → Int} (h : Cnt n) {i : Nat} (hi : i < 32) : allV (ofV n) i = n i := by
  rw [ofV, allV_ofN h i 32 (Nat.le_refl _), if_pos hi]
def vecOf (l : List D2) : List D2 := ofV (allV l)
theorem vecOf_ofV {n : Nat → Int} (h : Cnt n) : vecOf (ofV n) = ofV n := ofN_congr fun _ hi => allV_ofV h hi
/-- What package vec answers. -/
def mayV (l : List D2) : Bool := l == vecOf l
def leqV (a b : List D2) : Bool := (List.range 32).all fun i => decide (allV a i ≤ allV b i)
def getV (l : List D2) (r : Int) : Int := if r < 0 ∨ 31 < r then 0 else allV l r.toNat
def hasV (l : List D2) (r q : Int) : Bool := mayD r q && decide (q ≤ getV l r)
def withN (l : List D2) (r q : Int) (i : Nat) : Int := if mayD r q = true ∧ r = (i : Int) ∧ allV l i < q then q else allV l i
def withV (l : List D2) (r q : Int) : List D2 := ofV (withN l r q)
def joinN (a b : List D2) (i : Nat) : Int := max (allV a i) (allV b i)
def joinV (a b : List D2) : List D2 := ofV (joinN a b)
theorem leqV_iff (a b : List D2) : leqV a b = true ↔ ∀ i, i < 32 → allV a i ≤ allV b i := by
  simp [leqV, List.all_eq_true]
theorem joinN_cnt (a b : List D2) : Cnt (joinN a b) := fun i _ => by
  have h1 := allV_bd a i; have h2 := allV_bd b i; unfold joinN; omega
theorem withN_cnt (l : List D2) (r q : Int) : Cnt (withN l r q) := fun i _ => by
  have h1 := allV_bd l i
  unfold withN
  split
  · rename_i h; have := mayT_bd (d := (r, q)) h.1; simp only at this; omega
  · exact h1
theorem all_join (a b : List D2) {i : Nat} (hi : i < 32) : allV (joinV a b) i = max (allV a i) (allV b i) := allV_ofV (joinN_cnt a b) hi
theorem all_with (l : List D2) (r q : Int) {i : Nat} (hi : i < 32) : allV (withV l r q) i = withN l r q i := allV_ofV (withN_cnt l r q) hi
theorem mayV_ofV {n : Nat → Int} (h : Cnt n) : mayV (ofV n) = true := by rw [mayV, vecOf_ofV h]; simp
theorem mayV_join (a b : List D2) : mayV (joinV a b) = true := mayV_ofV (joinN_cnt a b)
theorem mayV_with (l : List D2) (r q : Int) : mayV (withV l r q) = true := mayV_ofV (withN_cnt l r q)
theorem getV_bd (l : List D2) (r : Int) : 0 ≤ getV l r ∧ getV l r ≤ 1099511627776 := by
  unfold getV; split
  · omega
  · exact allV_bd l _
/-- Lattice. -/
theorem leq_join (a b : List D2) : leqV a (joinV a b) = true ∧ leqV b (joinV a b) = true := by
  rw [leqV_iff, leqV_iff]
  exact ⟨fun i hi => by rw [all_join a b hi]; omega, fun i hi => by rw [all_join a b hi]; omega⟩
/-- Which dots are known. -/
theorem getV_in {l : List D2} {r : Int} (h0 : 0 ≤ r) (h1 : r ≤ 31) : ∃ i : Nat, i < 32 ∧ r = (i : Int) ∧ getV l r = allV l i := by
  refine ⟨r.toNat, by omega, by omega, ?_⟩
  rw [getV, if_neg (by omega)]
theorem hasV_eq (l : List D2) (r q : Int) : hasV l r q = true ↔ ∃ i : Nat, i < 32 ∧ r = (i : Int) ∧ 1 ≤ q ∧ q ≤ allV l i := by
  rw [hasV, Bool.and_eq_true, decide_eq_true_eq]
  constructor
  · rintro ⟨hm, hq⟩
    have := mayT_bd (d := (r, q)) hm
    simp only at this
    obtain ⟨i, h1, h2, h3⟩ := getV_in (l := l) this.1 this.2.1
    exact ⟨i, h1, h2, this.2.2.1, by omega⟩
  · rintro ⟨i, h1, rfl, h2, h3⟩
    have hb := allV_bd l i
    refine ⟨decide_eq_true (by omega), ?_⟩
    rw [getV, if_neg (by omega), Int.toNat_natCast]; exact h3
theorem withN_max (l : List D2) (r q : Int) (i : Nat) : withN l r q i = if mayD r q = true ∧ r = (i : Int) then max (allV l i) q else allV l i := by
  unfold withN
  by_cases h : mayD r q = true ∧ r = (i : Int)
  · rw [if_pos h]
    by_cases h2 : allV l i < q
    · rw [if_pos ⟨h.1, h.2, h2⟩]; omega
    · rw [if_neg (fun hh => h2 hh.2.2)]; omega
  · rw [if_neg h, if_neg (fun hh => h ⟨hh.1, hh.2.1⟩)]
theorem leq_trans {a b c : List D2} (h1 : leqV a b = true) (h2 : leqV b c = true) : leqV a c = true := by
  rw [leqV_iff] at h1 h2 ⊢
  intro i hi; have := h1 i hi; have := h2 i hi; omega
end Go.Proofs.YtlcojmligbikoaaGreatDoor
namespace Go.Proofs.YtlcojmligbikoaaGreatDoor
/-- The whole pieces ahead of the last byte c, and what stands behind it. -/
def cutStep (c : UInt8) (st : List (List UInt8) × List UInt8) (b : UInt8) : List (List UInt8) × List UInt8 := if b = c then (st.1 ++ [st.2], []) else (st.1, st.2 ++ [b])
def cutS (c : UInt8) (s : List UInt8) : List (List UInt8) × List UInt8 := s.foldl (cutStep c) ([], [])
def piecesB (c : UInt8) (s : List UInt8) : List (List UInt8) := (cutS c s).1 ++ [(cutS c s).2]
theorem list_snoc {α : Type} (l : List α) (h : l ≠ []) : ∃ a b, l = a ++ [b] := ⟨l.dropLast, l.getLast h, (List.dropLast_concat_getLast h).symm⟩
theorem snoc_ind {α : Type} {P : List α → Prop} (h0 : P []) (h1 : ∀ l a, P l → P (l ++ [a])) : ∀ l, P l := by
  have : ∀ n (l : List α), l.length = n → P l := by
    intro n
    induction n with
    | zero => intro l hl; rw [List.eq_nil_of_length_eq_zero hl]; exact h0
    | succ n ih =>
      intro l hl
      obtain ⟨a, b, rfl⟩ := list_snoc l (fun h => by rw [h] at hl; simp at hl)
      exact h1 a b (ih a (by simpa using hl))
  exact fun l => this l.length l rfl
end Go.Proofs.YtlcojmligbikoaaGreatDoor
namespace Go.Proofs.YtlcojmligbikoaaGreatDoor
open Go.RowKit
theorem numL_nonneg (m : Nat) : numL (m : Int) = digs m := by unfold numL; rw [if_neg (by omega)]; simp
theorem numL_neg (m : Nat) (h : 0 < m) : numL (-(m : Int)) = 45 :: digs m := by unfold numL; rw [if_pos (by omega)]; simp
theorem numL_length (n : Int) (h : -9223372036854775808 ≤ n) (h2 : n < 9223372036854775808) : (numL n).length ≤ 20 := by
  have := digs_length 19 n.natAbs (by omega) (by omega)
  unfold numL; split <;> simp <;> omega
/-- A slice of one byte that was just made, as a text. -/
theorem conv_one (w : World) (c : UInt8) (n : Nat) (hn : c.toNat = n) : (convert 43 9 (.slice (some ⟨w.heap.size, 0, none⟩) 1 1)).run Tryz.prog (w.alloc (.cells #[.int .u8 (n : Int)] 5)) = .ok (.string (str [c])) (w.alloc (.cells #[.int .u8 (n : Int)] 5)) := by
  subst hn
  have h := has_new w 5 (0, 0) ([c].map w8)
  rw [show (bytesL ([c].map w8)).toArray = #[.int .u8 (c.toNat : Int)] by rw [bytesL_map]; rfl] at h
  exact conv_text Tryz.underlying43 Tryz.underlying5 Tryz.underlying9 (l := [c]) h
theorem text_one (w : World) (c : UInt8) (n : Nat) (hn : c.toNat = n) : HasText (w.alloc (.cells #[.int .u8 (n : Int)] 5)) (.slice (some ⟨w.heap.size, 0, none⟩) 1 1) [c] := by
  subst hn
  have h := has_new w 5 (0, 0) ([c].map w8)
  rw [show (bytesL ([c].map w8)).toArray = #[.int .u8 (c.toNat : Int)] by rw [bytesL_map]; rfl] at h
  exact h
set_option maxRecDepth 100000 in
set_option maxHeartbeats 4000000 in
theorem refNumber_pos (m : Nat) (hm : m < 9223372036854775808) (w : World) : Calls Tryz.prog 59 #[.int .i64 (m : Int)] w fun e w' => e = .returned (.string (str (digs m))) ∧ Below w.heap.size w w' := by
  induction m using Nat.strongRecOn generalizing w with
  | _ m ih =>
  by_cases h10 : m < 10
  · obtain ⟨c, hc⟩ : ∃ c : UInt8, c = UInt8.ofNat (48 + m) := ⟨_, rfl⟩
    obtain ⟨cn, hcn⟩ : ∃ cn, c.toNat = cn := ⟨_, rfl⟩
    have e1 : (48 : Int) + (m : Int) = (cn : Int) := by rw [← hcn, hc, dig_toNat m h10]; omega
    have hl := digs_lo m h10
    rw [← hc] at hl
    have HL := Lib.hid hl
    have hc256 : IntKind.u8.wrap (cn : Int) = (cn : Int) := by have := UInt8.toNat_lt c; rw [IntKind.wrap_u8]; omega
    have q0 : (m : Int) < 10 := by omega
    have hcv := conv_one w c cn hcn
    clear ih hl hc hm hcn
    go_enter Tryz.func59, Tryz.ntmps59
    go_wp2_with fail
    go_ret
    exact ⟨by rw [HL.out]; rfl, (Below.refl _ _).alloc (Nat.le_refl _) _⟩
  · obtain ⟨q, hq⟩ : ∃ q : Nat, q = m / 10 := ⟨_, rfl⟩
    obtain ⟨c, hc⟩ : ∃ c : UInt8, c = UInt8.ofNat (48 + m % 10) := ⟨_, rfl⟩
    obtain ⟨r, hr⟩ : ∃ r : Nat, r = m % 10 := ⟨_, rfl⟩
    have IH := Lib.hid (ih q (by omega) (by omega))
    have e0 : (m : Int) / 10 = (q : Int) := by omega
    have e1 : (m : Int).tmod 10 = (r : Int) := by rw [Int.tmod_eq_emod_of_nonneg (by omega)]; omega
    obtain ⟨cn, hcn⟩ : ∃ cn, c.toNat = cn := ⟨_, rfl⟩
    have e2 : (48 : Int) + (r : Int) = (cn : Int) := by rw [← hcn, hc, dig_toNat (m % 10) (by omega)]; omega
    have hr10 : (r : Int) < 10 := by omega
    have hc256 : IntKind.u8.wrap (cn : Int) = (cn : Int) := by have := UInt8.toNat_lt c; rw [IntKind.wrap_u8]; omega
    have hl := digs_hi m (by omega)
    rw [← hc, ← hq] at hl
    have hd : decide ((m : Int) < 10) = false := decide_eq_false (by omega)
    have ew2 : IntKind.i64.wrap (cn : Int) = (cn : Int) := by have := UInt8.toNat_lt c; rw [IntKind.wrap_i64]; omega
    have ew : IntKind.i64.wrap (q : Int) = (q : Int) := by rw [IntKind.wrap_i64]; omega
    have HT := Lib.hid (fun w => text_one w c cn hcn)
    have hadd := add_str (P := Tryz.prog) (digs q) [c] (by have := digs_length 19 q (by omega) (by omega); simp; omega)
    rw [← hl] at hadd
    clear ih hl hc hr hq hm hcn
    go_enter Tryz.func59, Tryz.ntmps59
    go_wp2_with fail
    -- REGION7
    refine wp_region_held_drew (S := fun w' => Below w.heap.size w w') (by kernel_rfl) (below_draws (Below.refl _ _) 1) (fun hHeld => ?_)
    refine take_at (i := 0) 34 rfl rfl (by kernel_rfl) (by kernel_rfl) (by kernel_rfl) (fun _ _ _ h => h) (sure_yes (by rfl) (fun w => by go_simp; try with_reducible rfl)) (by assumption) ?_
    simp only [List.setIfInBounds_toArray, List.set_cons_zero, List.set_cons_succ]
    refine take_at (i := 1) 35 rfl rfl (by kernel_rfl) (by kernel_rfl) (by kernel_rfl) (fun _ _ _ h => h) (sure_yes (by rfl) (fun w => by go_simp; try with_reducible rfl)) (by assumption) ?_
    simp only [List.setIfInBounds_toArray, List.set_cons_zero, List.set_cons_succ]
    refine take_at (i := 3) 37 rfl rfl (by kernel_rfl) (by kernel_rfl) (by kernel_rfl) (fun _ _ _ h => h) (sure_yes (by rfl) (fun w => by go_simp; try with_reducible rfl)) (by assumption) ?_
    simp only [List.setIfInBounds_toArray, List.set_cons_zero, List.set_cons_succ]
    refine take_at (i := 4) 38 rfl rfl (by kernel_rfl) (by kernel_rfl) (by kernel_rfl) (fun _ _ _ h => h) (sure_yes (by rfl) (fun w => by go_simp; try with_reducible rfl)) (by assumption) ?_
    simp only [List.setIfInBounds_toArray, List.set_cons_zero, List.set_cons_succ]
    refine take_at (i := 5) 39 rfl rfl (by kernel_rfl) (by kernel_rfl) (by kernel_rfl) (fun _ _ _ h => h) (sure_yes (by rfl) (fun w => by go_simp; try with_reducible rfl)) (by assumption) ?_
    simp only [List.setIfInBounds_toArray, List.set_cons_zero, List.set_cons_succ]
    refine take_at (i := 6) 40 rfl rfl (by kernel_rfl) (by kernel_rfl) (by kernel_rfl) (fun _ _ _ h => h) (sure_yes (by rfl) (fun w => by go_simp; try with_reducible rfl)) (by assumption) ?_
    simp only [List.setIfInBounds_toArray, List.set_cons_zero, List.set_cons_succ]
    refine wpAnyH_ready (rs := [2, 7]) (by kernel_rfl) (by simp) ?_
    refine AllReadyH.cons rfl (fun K hK => ?_) (AllReadyH.cons rfl (fun K hK => ?_) AllReadyH.nil)
    · go_simp
      go_at_call 59
      refine (IH.out _).mono ?_
      rintro e w1 ⟨rfl, hb1⟩
      go_wp2_with fail
      refine hK.out _ _ (below_next (below_draws (Below.refl _ _) 1) hb1) (fun hS1 => ?_)
      clear hK K
      refine wpAnyH_ready (rs := [7]) (by kernel_rfl) (by simp) ?_
      refine AllReadyH.cons rfl (fun K hK => ?_) AllReadyH.nil
      go_simp
      refine hK.out _ _ (hS1.alloc hS1.size _) (fun hS2 => ?_)
      clear hK K
      refine wpAnyH_ready (rs := [8]) (by kernel_rfl) (by simp) ?_
      refine AllReadyH.cons rfl (fun K hK => ?_) AllReadyH.nil
      refine conv_step 42 rfl (by rfl) 43 9 5 (.tmp 41) _ rfl rfl Tryz.underlying43 Tryz.underlying5 Tryz.underlying9 [c] (HT.out w1) ?_
      refine hK.out _ _ (by assumption) (fun _ => ?_)
      clear hK K
      simp only [List.setIfInBounds_toArray, List.set_cons_zero, List.set_cons_succ]
      refine take_at (i := 9) 43 rfl rfl (by kernel_rfl) (by kernel_rfl) (by kernel_rfl) (fun _ _ _ h => h) (sure_yes (by rfl) (fun w => by go_simp; try with_reducible rfl)) (by assumption) ?_
      simp only [List.setIfInBounds_toArray, List.set_cons_zero, List.set_cons_succ]
      refine take_at (i := 10) 2 rfl rfl (by kernel_rfl) (by kernel_rfl) (by kernel_rfl) (fun _ _ _ h => h) (sure_yes (by rfl) (fun w => by go_simp; try with_reducible rfl)) (by assumption) ?_
      simp only [List.setIfInBounds_toArray, List.set_cons_zero, List.set_cons_succ]
      refine wpAnyH_done (by kernel_rfl) ?_ _
      go_wp2
      go_ret
      exact ⟨rfl, by assumption⟩
    · go_simp
      refine hK.out _ _ ((below_draws (Below.refl _ _) 1).alloc (Nat.le_refl _) _) (fun hS2 => ?_)
      clear hK K
      refine wpAnyH_ready (rs := [2, 8]) (by kernel_rfl) (by simp) ?_
      refine AllReadyH.cons rfl (fun K hK => ?_) (AllReadyH.cons rfl (fun K hK => ?_) AllReadyH.nil)
      · go_simp
        go_at_call 59
        refine (IH.out _).mono ?_
        rintro e w1 ⟨rfl, hb1⟩
        go_wp2_with fail
        refine hK.out _ _ (below_next hS2 hb1) (fun hS1 => ?_)
        clear hK K
        refine wpAnyH_ready (rs := [8]) (by kernel_rfl) (by simp) ?_
        refine AllReadyH.cons rfl (fun K hK => ?_) AllReadyH.nil
        refine conv_step 42 rfl (by rfl) 43 9 5 (.tmp 41) _ rfl rfl Tryz.underlying43 Tryz.underlying5 Tryz.underlying9 [c] (has_below (w := (w.alloc _).drew) (HT.out w) hb1) ?_
        refine hK.out _ _ (by assumption) (fun _ => ?_)
        clear hK K
        simp only [List.setIfInBounds_toArray, List.set_cons_zero, List.set_cons_succ]
        refine take_at (i := 9) 43 rfl rfl (by kernel_rfl) (by kernel_rfl) (by kernel_rfl) (fun _ _ _ h => h) (sure_yes (by rfl) (fun w => by go_simp; try with_reducible rfl)) (by assumption) ?_
        simp only [List.setIfInBounds_toArray, List.set_cons_zero, List.set_cons_succ]
        refine take_at (i := 10) 2 rfl rfl (by kernel_rfl) (by kernel_rfl) (by kernel_rfl) (fun _ _ _ h => h) (sure_yes (by rfl) (fun w => by go_simp; try with_reducible rfl)) (by assumption) ?_
        simp only [List.setIfInBounds_toArray, List.set_cons_zero, List.set_cons_succ]
        refine wpAnyH_done (by kernel_rfl) ?_ _
        go_wp2
        go_ret
        exact ⟨rfl, by assumption⟩
      · refine conv_step 42 rfl (by rfl) 43 9 5 (.tmp 41) _ rfl rfl Tryz.underlying43 Tryz.underlying5 Tryz.underlying9 [c] (HT.out w) ?_
        refine hK.out _ _ (by assumption) (fun _ => ?_)
        clear hK K
        simp only [List.setIfInBounds_toArray, List.set_cons_zero, List.set_cons_succ]
        refine wpAnyH_ready (rs := [2]) (by kernel_rfl) (by simp) ?_
        refine AllReadyH.cons rfl (fun K hK => ?_) AllReadyH.nil
        go_simp
        go_at_call 59
        refine (IH.out _).mono ?_
        rintro e w1 ⟨rfl, hb1⟩
        go_wp2_with fail
        refine hK.out _ _ (below_next hS2 hb1) (fun hS1 => ?_)
        clear hK K
        refine take_at (i := 9) 43 rfl rfl (by kernel_rfl) (by kernel_rfl) (by kernel_rfl) (fun _ _ _ h => h) (sure_yes (by rfl) (fun w => by go_simp; try with_reducible rfl)) (by assumption) ?_
        simp only [List.setIfInBounds_toArray, List.set_cons_zero, List.set_cons_succ]
        refine take_at (i := 10) 2 rfl rfl (by kernel_rfl) (by kernel_rfl) (by kernel_rfl) (fun _ _ _ h => h) (sure_yes (by rfl) (fun w => by go_simp; try with_reducible rfl)) (by assumption) ?_
        simp only [List.setIfInBounds_toArray, List.set_cons_zero, List.set_cons_succ]
        refine wpAnyH_done (by kernel_rfl) ?_ _
        go_wp2
        go_ret
        exact ⟨rfl, by assumption⟩
set_option maxRecDepth 100000 in
set_option maxHeartbeats 4000000 in
theorem refNumber_neg (m : Nat) (h0 : 0 < m) (hm : m ≤ 9223372036854775808) (w : World) : Calls Tryz.prog 59 #[.int .i64 (-(m : Int))] w fun e w' => e = .returned (.string (str (45 :: digs m))) ∧ Below w.heap.size w w' := by
  induction m using Nat.strongRecOn generalizing w with
  | _ m ih =>
  obtain ⟨z, hz⟩ : ∃ z : Int, z = -(m : Int) := ⟨_, rfl⟩
  rw [← hz]
  have hneg : decide (z < 0) = true := decide_eq_true (by omega)
  by_cases h10 : m < 10
  · obtain ⟨c, hc⟩ : ∃ c : UInt8, c = UInt8.ofNat (48 + m) := ⟨_, rfl⟩
    obtain ⟨cn, hcn⟩ : ∃ cn, c.toNat = cn := ⟨_, rfl⟩
    have hcn2 : cn = 48 + m := by rw [← hcn, hc, dig_toNat m h10]
    have e1 : (48 : Int) - z = (cn : Int) := by omega
    have hl := digs_lo m h10
    rw [← hc] at hl
    have hadd := add_str (P := Tryz.prog) [45] [c] (by simp)
    rw [show [45] ++ [c] = 45 :: digs m from by rw [hl]; rfl] at hadd
    have hc256 : IntKind.u8.wrap (cn : Int) = (cn : Int) := by rw [IntKind.wrap_u8]; omega
    have ew2 : IntKind.i64.wrap (cn : Int) = (cn : Int) := by rw [IntKind.wrap_i64]; omega
    have q0 : decide (-10 < z) = true := decide_eq_true (by omega)
    have hcv := conv_one w c cn hcn
    have h45 : (ByteArray.mk #[45]) = str [45] := rfl
    clear ih hl hc hm hcn hz h0 hcn2
    go_enter Tryz.func59, Tryz.ntmps59
    go_wp2_with fail
    go_ret
    exact ⟨rfl, (Below.refl _ _).alloc (Nat.le_refl _) _⟩
  · obtain ⟨q, hq⟩ : ∃ q : Nat, q = m / 10 := ⟨_, rfl⟩
    obtain ⟨y, hy⟩ : ∃ y : Int, y = -(q : Int) := ⟨_, rfl⟩
    obtain ⟨c, hc⟩ : ∃ c : UInt8, c = UInt8.ofNat (48 + m % 10) := ⟨_, rfl⟩
    obtain ⟨r, hr⟩ : ∃ r : Int, r = -((m % 10 : Nat) : Int) := ⟨_, rfl⟩
    have ih' := ih q (by omega) (by omega) (by omega)
    rw [← hy] at ih'
    have IH := Lib.hid ih'
    have e0 : z.tdiv 10 = y := by rw [hz, hy, hq, Int.neg_tdiv, Int.tdiv_eq_ediv_of_nonneg (by omega)]; omega
    have e1 : z.tmod 10 = r := by rw [hz, hr, Int.neg_tmod, Int.tmod_eq_emod_of_nonneg (by omega)]; omega
    obtain ⟨cn, hcn⟩ : ∃ cn, c.toNat = cn := ⟨_, rfl⟩
    have hcn2 : cn = 48 + m % 10 := by rw [← hcn, hc, dig_toNat (m % 10) (by omega)]
    have e2 : (48 : Int) - r = (cn : Int) := by omega
    have hc256 : IntKind.u8.wrap (cn : Int) = (cn : Int) := by rw [IntKind.wrap_u8]; omega
    have ew2 : IntKind.i64.wrap (cn : Int) = (cn : Int) := by rw [IntKind.wrap_i64]; omega
    have ew : IntKind.i64.wrap y = y := by rw [IntKind.wrap_i64]; omega
    have ew3 : IntKind.i64.wrap r = r := by rw [IntKind.wrap_i64]; omega
    have hl := digs_hi m (by omega)
    rw [← hc, ← hq] at hl
    have HT := Lib.hid (fun w => text_one w c cn hcn)
    have hadd := add_str (P := Tryz.prog) (45 :: digs q) [c] (by have := digs_length 19 q (by omega) (by omega); simp; omega)
    rw [show (45 :: digs q) ++ [c] = 45 :: digs m from by rw [hl]; rfl] at hadd
    have hd : decide (-10 < z) = false := decide_eq_false (by omega)
    clear ih ih' hl hc hr hq hm hcn hcn2 hy hz h0
    go_enter Tryz.func59, Tryz.ntmps59
    go_wp2_with fail
    refine wp_region_held_drew (S := fun w' => Below w.heap.size w w') (by kernel_rfl) (below_draws (Below.refl _ _) 1) (fun hHeld => ?_)
    refine take_at (i := 0) 17 rfl rfl (by kernel_rfl) (by kernel_rfl) (by kernel_rfl) (fun _ _ _ h => h) (sure_yes (by rfl) (fun w => by go_simp; try with_reducible rfl)) (by assumption) ?_
    simp only [List.setIfInBounds_toArray, List.set_cons_zero, List.set_cons_succ]
    refine take_at (i := 1) 18 rfl rfl (by kernel_rfl) (by kernel_rfl) (by kernel_rfl) (fun _ _ _ h => h) (sure_yes (by rfl) (fun w => by go_simp; try with_reducible rfl)) (by assumption) ?_
    simp only [List.setIfInBounds_toArray, List.set_cons_zero, List.set_cons_succ]
    refine take_at (i := 3) 20 rfl rfl (by kernel_rfl) (by kernel_rfl) (by kernel_rfl) (fun _ _ _ h => h) (sure_yes (by rfl) (fun w => by go_simp; try with_reducible rfl)) (by assumption) ?_
    simp only [List.setIfInBounds_toArray, List.set_cons_zero, List.set_cons_succ]
    refine take_at (i := 4) 21 rfl rfl (by kernel_rfl) (by kernel_rfl) (by kernel_rfl) (fun _ _ _ h => h) (sure_yes (by rfl) (fun w => by go_simp; try with_reducible rfl)) (by assumption) ?_
    simp only [List.setIfInBounds_toArray, List.set_cons_zero, List.set_cons_succ]
    refine take_at (i := 5) 22 rfl rfl (by kernel_rfl) (by kernel_rfl) (by kernel_rfl) (fun _ _ _ h => h) (sure_yes (by rfl) (fun w => by go_simp; try with_reducible rfl)) (by assumption) ?_
    simp only [List.setIfInBounds_toArray, List.set_cons_zero, List.set_cons_succ]
    refine take_at (i := 6) 23 rfl rfl (by kernel_rfl) (by kernel_rfl) (by kernel_rfl) (fun _ _ _ h => h) (sure_yes (by rfl) (fun w => by go_simp; try with_reducible rfl)) (by assumption) ?_
    simp only [List.setIfInBounds_toArray, List.set_cons_zero, List.set_cons_succ]
    refine wpAnyH_ready (rs := [2, 7]) (by kernel_rfl) (by simp) ?_
    refine AllReadyH.cons rfl (fun K hK => ?_) (AllReadyH.cons rfl (fun K hK => ?_) AllReadyH.nil)
    · go_simp
      go_at_call 59
      refine (IH.out _).mono ?_
      rintro e w1 ⟨rfl, hb1⟩
      go_wp2_with fail
      refine hK.out _ _ (below_next (below_draws (Below.refl _ _) 1) hb1) (fun hS1 => ?_)
      clear hK K
      refine wpAnyH_ready (rs := [7]) (by kernel_rfl) (by simp) ?_
      refine AllReadyH.cons rfl (fun K hK => ?_) AllReadyH.nil
      go_simp
      refine hK.out _ _ (hS1.alloc hS1.size _) (fun hS2 => ?_)
      clear hK K
      refine wpAnyH_ready (rs := [8]) (by kernel_rfl) (by simp) ?_
      refine AllReadyH.cons rfl (fun K hK => ?_) AllReadyH.nil
      refine conv_step 25 rfl (by rfl) 43 9 5 (.tmp 24) _ rfl rfl Tryz.underlying43 Tryz.underlying5 Tryz.underlying9 [c] (HT.out w1) ?_
      refine hK.out _ _ (by assumption) (fun _ => ?_)
      clear hK K
      simp only [List.setIfInBounds_toArray, List.set_cons_zero, List.set_cons_succ]
      refine take_at (i := 9) 26 rfl rfl (by kernel_rfl) (by kernel_rfl) (by kernel_rfl) (fun _ _ _ h => h) (sure_yes (by rfl) (fun w => by go_simp; try with_reducible rfl)) (by assumption) ?_
      simp only [List.setIfInBounds_toArray, List.set_cons_zero, List.set_cons_succ]
      refine take_at (i := 10) 2 rfl rfl (by kernel_rfl) (by kernel_rfl) (by kernel_rfl) (fun _ _ _ h => h) (sure_yes (by rfl) (fun w => by go_simp; try with_reducible rfl)) (by assumption) ?_
      simp only [List.setIfInBounds_toArray, List.set_cons_zero, List.set_cons_succ]
      refine wpAnyH_done (by kernel_rfl) ?_ _
      go_wp2
      go_ret
      exact ⟨rfl, by assumption⟩
    · go_simp
      refine hK.out _ _ ((below_draws (Below.refl _ _) 1).alloc (Nat.le_refl _) _) (fun hS2 => ?_)
      clear hK K
      refine wpAnyH_ready (rs := [2, 8]) (by kernel_rfl) (by simp) ?_
      refine AllReadyH.cons rfl (fun K hK => ?_) (AllReadyH.cons rfl (fun K hK => ?_) AllReadyH.nil)
      · go_simp
        go_at_call 59
        refine (IH.out _).mono ?_
        rintro e w1 ⟨rfl, hb1⟩
        go_wp2_with fail
        refine hK.out _ _ (below_next hS2 hb1) (fun hS1 => ?_)
        clear hK K
        refine wpAnyH_ready (rs := [8]) (by kernel_rfl) (by simp) ?_
        refine AllReadyH.cons rfl (fun K hK => ?_) AllReadyH.nil
        refine conv_step 25 rfl (by rfl) 43 9 5 (.tmp 24) _ rfl rfl Tryz.underlying43 Tryz.underlying5 Tryz.underlying9 [c] (has_below (w := (w.alloc _).drew) (HT.out w) hb1) ?_
        refine hK.out _ _ (by assumption) (fun _ => ?_)
        clear hK K
        simp only [List.setIfInBounds_toArray, List.set_cons_zero, List.set_cons_succ]
        refine take_at (i := 9) 26 rfl rfl (by kernel_rfl) (by kernel_rfl) (by kernel_rfl) (fun _ _ _ h => h) (sure_yes (by rfl) (fun w => by go_simp; try with_reducible rfl)) (by assumption) ?_
        simp only [List.setIfInBounds_toArray, List.set_cons_zero, List.set_cons_succ]
        refine take_at (i := 10) 2 rfl rfl (by kernel_rfl) (by kernel_rfl) (by kernel_rfl) (fun _ _ _ h => h) (sure_yes (by rfl) (fun w => by go_simp; try with_reducible rfl)) (by assumption) ?_
        simp only [List.setIfInBounds_toArray, List.set_cons_zero, List.set_cons_succ]
        refine wpAnyH_done (by kernel_rfl) ?_ _
        go_wp2
        go_ret
        exact ⟨rfl, by assumption⟩
      · refine conv_step 25 rfl (by rfl) 43 9 5 (.tmp 24) _ rfl rfl Tryz.underlying43 Tryz.underlying5 Tryz.underlying9 [c] (HT.out w) ?_
        refine hK.out _ _ (by assumption) (fun _ => ?_)
        clear hK K
        simp only [List.setIfInBounds_toArray, List.set_cons_zero, List.set_cons_succ]
        refine wpAnyH_ready (rs := [2]) (by kernel_rfl) (by simp) ?_
        refine AllReadyH.cons rfl (fun K hK => ?_) AllReadyH.nil
        go_simp
        go_at_call 59
        refine (IH.out _).mono ?_
        rintro e w1 ⟨rfl, hb1⟩
        go_wp2_with fail
        refine hK.out _ _ (below_next hS2 hb1) (fun hS1 => ?_)
        clear hK K
        refine take_at (i := 9) 26 rfl rfl (by kernel_rfl) (by kernel_rfl) (by kernel_rfl) (fun _ _ _ h => h) (sure_yes (by rfl) (fun w => by go_simp; try with_reducible rfl)) (by assumption) ?_
        simp only [List.setIfInBounds_toArray, List.set_cons_zero, List.set_cons_succ]
        refine take_at (i := 10) 2 rfl rfl (by kernel_rfl) (by kernel_rfl) (by kernel_rfl) (fun _ _ _ h => h) (sure_yes (by rfl) (fun w => by go_simp; try with_reducible rfl)) (by assumption) ?_
        simp only [List.setIfInBounds_toArray, List.set_cons_zero, List.set_cons_succ]
        refine wpAnyH_done (by kernel_rfl) ?_ _
        go_wp2
        go_ret
        exact ⟨rfl, by assumption⟩
theorem refNumber_any (n : Int) (h1 : -9223372036854775808 ≤ n) (h2 : n < 9223372036854775808) (w : World) : Calls Tryz.prog 59 #[.int .i64 n] w fun e w' => e = .returned (.string (str (numL n))) ∧ Below w.heap.size w w' := by
  by_cases h : n < 0
  · obtain ⟨m, hm⟩ : ∃ m : Nat, n = -(m : Int) := ⟨n.natAbs, by omega⟩
    subst hm
    rw [numL_neg m (by omega)]
    exact refNumber_neg m (by omega) (by omega) w
  · obtain ⟨m, rfl⟩ : ∃ m : Nat, n = (m : Int) := ⟨n.natAbs, by omega⟩
    rw [numL_nonneg m]
    exact refNumber_pos m (by omega) w
end Go.Proofs.YtlcojmligbikoaaGreatDoor
namespace Go.Proofs.YtlcojmligbikoaaGreatDoor
/-- Whether a dot may stand next behind others. -/
def fol (l : List D2) (d : D2) : Bool := mayT d && (l.isEmpty || decide ((l.getLastD (0, 0)).1 < d.1))
/-- Dots that may be, of rising replicas. -/
def Rising (l : List D2) : Prop := l.Pairwise (fun a b => a.1 < b.1) ∧ ∀ d ∈ l, mayT d = true
theorem rising_nil : Rising [] := ⟨List.Pairwise.nil, fun _ h => by cases h⟩
theorem rising_snoc (l : List D2) (d : D2) : Rising (l ++ [d]) ↔ Rising l ∧ fol l d = true := by
  unfold Rising fol
  rw [List.pairwise_append, Bool.and_eq_true, Bool.or_eq_true, decide_eq_true_eq]
  constructor
  · rintro ⟨⟨h1, -, h2⟩, h3⟩
    refine ⟨⟨h1, fun x hx => h3 x (List.mem_append.2 (.inl hx))⟩, h3 d (by simp), ?_⟩
    by_cases h : l = []
    · left; rw [h]; rfl
    · right
      obtain ⟨a, b, rfl⟩ := list_snoc l h
      rw [List.getLastD_concat]; exact h2 b (by simp) d (by simp)
  · rintro ⟨⟨h1, h2⟩, h3, h4⟩
    refine ⟨⟨h1, List.pairwise_singleton _ _, fun x hx y hy => ?_⟩, fun x hx => ?_⟩
    · rw [List.mem_singleton.1 hy]
      rcases h4 with h4 | h4
      · rw [List.isEmpty_iff.1 h4] at hx; cases hx
      · obtain ⟨a, b, rfl⟩ := list_snoc l (fun e => by rw [e] at hx; cases hx)
        rw [List.getLastD_concat] at h4
        rcases List.mem_append.1 hx with hx | hx
        · have := (List.pairwise_append.1 h1).2.2 x hx b (by simp); omega
        · rw [List.mem_singleton.1 hx]; exact h4
    · rcases List.mem_append.1 hx with hx | hx
      · exact h2 x hx
      · rw [List.mem_singleton.1 hx]; exact h3
theorem allV_none {l : List D2} {i : Nat} (h : ∀ d ∈ l, d.1 ≠ (i : Int)) : allV l i = 0 := by
  revert h
  refine snoc_ind (P := fun l => (∀ d ∈ l, d.1 ≠ (i : Int)) → allV l i = 0) (fun _ => rfl) ?_ l
  intro l a ih h
  rw [allV_snoc, ih (fun d hd => h d (List.mem_append.2 (.inl hd))), seen, if_neg (fun hh => h a (by simp) hh.2.1)]
theorem ofN_stay {n : Nat → Int} {k : Nat} : ∀ m, k ≤ m → (∀ i, k ≤ i → i < m → n i = 0) → ofN n m = ofN n k := by
  intro m
  induction m with
  | zero => intro h _; rw [show k = 0 by omega]
  | succ m ih =>
    intro h h0
    by_cases e : k = m + 1
    · rw [e]
    · rw [ofN, ih (by omega) (fun i h1 h2 => h0 i h1 (by omega)), h0 m (by omega) (by omega), if_neg (by omega), List.append_nil]
theorem rising_of {l : List D2} (h : Rising l) : ∀ N : Nat, (∀ d ∈ l, d.1 < (N : Int)) → ofN (allV l) N = l := by
  revert h
  refine snoc_ind (P := fun l => Rising l → ∀ N : Nat, (∀ d ∈ l, d.1 < (N : Int)) → ofN (allV l) N = l) ?_ ?_ l
  · intro _ N _
    exact ofN_stay (n := allV []) (k := 0) N (Nat.zero_le _) (fun i _ _ => rfl)
  · intro l d ih h N hN
    have hh := (rising_snoc l d).1 h
    have hm := mayT_bd (h.2 d (by simp))
    have hlt : ∀ x ∈ l, x.1 < d.1 := fun x hx => (List.pairwise_append.1 h.1).2.2 x hx d (by simp)
    obtain ⟨k, hk⟩ : ∃ k : Nat, d.1 = (k : Int) := ⟨d.1.toNat, by omega⟩
    have hkN : k < N := by have := hN d (by simp); omega
    have h0 : allV l k = 0 := allV_none fun x hx => by have := hlt x hx; omega
    have hbig : ∀ i, k + 1 ≤ i → i < N → allV (l ++ [d]) i = 0 := fun i h1 _ => allV_none fun x hx => by
      rcases List.mem_append.1 hx with hx | hx
      · have := hlt x hx; omega
      · rw [List.mem_singleton.1 hx]; omega
    have hd : allV (l ++ [d]) k = d.2 := by
      rw [allV_snoc, h0, seen, if_pos ⟨h.2 d (by simp), hk, by omega⟩]
    rw [ofN_stay (k := k + 1) N (by omega) hbig, ofN, hd, if_pos (by omega)]
    rw [ofN_congr (m := allV l) (fun i hi => by rw [allV_snoc, seen, if_neg (fun hh => by have := hh.2.1; omega)]), ih hh.1 k (fun x hx => by have := hlt x hx; omega), ← hk]
theorem ofN_rising {n : Nat → Int} (h : Cnt n) : ∀ k, k ≤ 32 → Rising (ofN n k) := by
  intro k
  induction k with
  | zero => intro _; exact rising_nil
  | succ k ih =>
    intro hk
    rw [ofN]
    by_cases hp : 0 < n k
    · rw [if_pos hp, rising_snoc]
      refine ⟨ih (by omega), ?_⟩
      have hc := h k (by omega)
      have hm : mayT ((k : Int), n k) = true := decide_eq_true (by simp only; omega)
      rw [fol, hm, Bool.true_and, Bool.or_eq_true, decide_eq_true_eq]
      by_cases e : ofN n k = []
      · left; rw [e]; rfl
      · right
        obtain ⟨a, b, hab⟩ := list_snoc _ e
        rw [hab, List.getLastD_concat]
        obtain ⟨i, h1, h2, -⟩ := ofN_mem (n := n) (k := k) (d := b) (by rw [hab]; simp)
        rw [h2]; simp only; omega
    · rw [if_neg hp, List.append_nil]; exact ih (by omega)
theorem mayV_rising (l : List D2) : mayV l = true ↔ Rising l := by
  rw [mayV, beq_iff_eq]
  constructor
  · intro h; rw [h]; exact ofN_rising (allV_cnt l) 32 (Nat.le_refl _)
  · intro h; exact (rising_of h 32 (fun d hd => by have := mayT_bd (h.2 d hd); omega)).symm
theorem mayV_nil : mayV [] = true := (mayV_rising []).2 rising_nil
theorem rising_length {l : List D2} (h : mayV l = true) : l.length ≤ 32 := by
  rw [mayV, beq_iff_eq] at h
  rw [h]; exact ofN_length _ 32
end Go.Proofs.YtlcojmligbikoaaGreatDoor
namespace Go.Proofs.YtlcojmligbikoaaGreatDoor
open Go.RowKit
/-- The table of the powers of ten, as strconv lays it. -/
def PowTab (w : World) : Prop := Lib.TabIs Tryz.prog w "internal/strconv.uint64pow10" .u64 Lib.pow10Tab
theorem gPow : Tryz.prog.globalNamed "internal/strconv.uint64pow10" = some 1 := by kernel_rfl
theorem powTab_below {w w' : World} (h : PowTab w) (hb : Below w.heap.size w w') : PowTab w' := by
  unfold PowTab Lib.TabIs World.var? at h ⊢
  rw [gPow] at h ⊢
  simp only [Option.bind_some] at h ⊢
  have hlt : 1 < w.heap.size := by
    rcases Nat.lt_or_ge 1 w.heap.size with h' | h'
    · exact h'
    · rw [Array.getElem?_eq_none h'] at h; cases h
  rw [hb.block _ hlt]
  exact h
end Go.Proofs.YtlcojmligbikoaaGreatDoor
namespace Go.Proofs.YtlcojmligbikoaaGreatDoor
open Go.RowKit
/-- An event: its dot, what was known, its kind, its path, the digest, the size. -/
structure Ev where
  r : Int
  q : Int
  deps : List D2
  kind : Int
  path : List UInt8
  sum : Nat → BitVec 32
  size : Int
def zeroF : Nat → BitVec 32 := fun _ => 0#32
theorem zeroF_byt (i : Nat) : u32 (zeroF i) < 256 := by unfold zeroF; decide
def noEv : Ev := ⟨0, 0, [], 0, [], zeroF, 0⟩
def mayH (e : Ev) : Bool := if e.kind = 1 then decide (0 ≤ e.size) && decide (e.size ≤ 65536) else if e.kind = 2 then decide (e.size = 0) && sameRow 32 e.sum zeroF else false
def knownE (e : Ev) : Bool := mayV e.deps && decide (getV e.deps e.r = e.q - 1)
def mayE (e : Ev) : Bool := mayD e.r e.q && (knownE e && (ownP e.path && mayH e))
/-- The k-th word of a text, by its blanks. -/
def wd (s : List UInt8) (k : Nat) : List UInt8 := (piecesB 32 s).getD k []
/-- The words of a text, five times cut at most. -/
def spl6 (s : List UInt8) : List (List UInt8) := Lib.splitN s [32] 6
def sd (s : List UInt8) (k : Nat) : List UInt8 := (spl6 s).getD k []
end Go.Proofs.YtlcojmligbikoaaGreatDoor
namespace Go.Proofs.YtlcojmligbikoaaGreatDoor
open Go.RowKit
/-- What somebody does. -/
structure DeedT where
  who : Nat
  other : Nat
  path : Nat
  learns : Bool
  gone : Bool
  size : Nat
structure Hist where
  know : Nat → List D2
  out : List Ev
def pathsH : List (List UInt8) := [[97], [97, 47, 98], [99], [100]]
def sizeF (n : Nat) : Nat → BitVec 32 := fun i => if i = 0 then BitVec.ofNat 32 n else 0#32
def evH (h : Hist) (d : DeedT) : Ev :=
  ⟨(d.who % 3 : Nat), getV (h.know (d.who % 3)) (d.who % 3 : Nat) + 1, h.know (d.who % 3), if d.gone then 2 else 1, pathsH.getD (d.path % 4) [], if d.gone then zeroF else sizeF d.size, if d.gone then 0 else (d.size : Int)⟩
def putK (k : Nat → List D2) (w : Nat) (l : List D2) : Nat → List D2 := fun i => if i = w then l else k i
def stepH (h : Hist) (d : DeedT) : Hist :=
  if d.learns then ⟨putK h.know (d.who % 3) (joinV (h.know (d.who % 3)) (h.know (d.other % 3))), h.out⟩
  else ⟨putK h.know (d.who % 3) (withV (h.know (d.who % 3)) (evH h d).r (evH h d).q), h.out ++ [evH h d]⟩
def hist0 : Hist := ⟨fun _ => [], []⟩
def histN (l : List DeedT) : Hist := (l.take 40).foldl stepH hist0
theorem getV_nat (l : List D2) {a : Nat} (h : a < 32) : getV l (a : Int) = allV l a := by
  unfold getV; rw [if_neg (by omega)]; rfl
structure InvH (h : Hist) (n : Nat) : Prop where
  vec : ∀ i, i < 3 → mayV (h.know i) = true
  top : ∀ i j, i < 3 → j < 3 → allV (h.know i) j ≤ allV (h.know j) j
  cnt : ∀ i, i < 3 → allV (h.know i) i ≤ n
  evs : ∀ e ∈ h.out, mayE e = true ∧ (∀ i, u32 (e.sum i) < 256) ∧ ∃ a : Nat, a < 3 ∧ e.r = (a : Int) ∧ 1 ≤ e.q ∧ e.q ≤ allV (h.know a) a ∧ allV e.deps a = e.q - 1 ∧ ∀ j, j < 3 → allV e.deps j ≤ allV (h.know j) j
  clos : ∀ i a : Nat, i < 3 → a < 3 → ∀ e ∈ h.out, e.r = (a : Int) → e.q ≤ allV (h.know i) a → leqV e.deps (h.know i) = true
  trans : ∀ e ∈ h.out, ∀ f ∈ h.out, ∀ a : Nat, a < 3 → f.r = (a : Int) → f.q ≤ allV e.deps a → leqV f.deps e.deps = true
  rise : h.out.Pairwise fun e f => e.r = f.r → e.q < f.q
theorem inv0 : InvH hist0 0 where
  vec := fun _ _ => mayV_nil
  top := fun _ _ _ _ => by simp [hist0]
  cnt := fun _ _ => by simp [hist0, allV_nil]
  evs := fun e he => by simp [hist0] at he
  clos := fun _ _ _ _ e he => by simp [hist0] at he
  trans := fun e he => by simp [hist0] at he
  rise := List.Pairwise.nil
theorem sizeF_lt {n : Nat} (hn : n < 256) (i : Nat) : u32 (sizeF n i) < 256 := by
  unfold sizeF; split
  · unfold u32; rw [BitVec.toNat_ofNat]; omega
  · decide
theorem path_own {k : Nat} (hk : k < 4) : ownP (pathsH.getD k []) = true := by
  match k, hk with
  | 0, _ => decide +kernel
  | 1, _ => decide +kernel
  | 2, _ => decide +kernel
  | 3, _ => decide +kernel
theorem leq_refl (a : List D2) : leqV a a = true := (leqV_iff a a).2 fun _ _ => Int.le_refl _
theorem inv_learn {h : Hist} {n : Nat} (H : InvH h n) {w o : Nat} (hw : w < 3) (ho : o < 3) : InvH ⟨putK h.know w (joinV (h.know w) (h.know o)), h.out⟩ (n + 1) := by
  have hd : ∀ i j, i < 3 → j < 32 → allV (putK h.know w (joinV (h.know w) (h.know o)) i) j = if i = w then max (allV (h.know w) j) (allV (h.know o) j) else allV (h.know i) j := fun i j hi hj => by
    unfold putK; split
    · rw [all_join _ _ hj]
    · rfl
  have hdi : ∀ j, j < 3 → allV (putK h.know w (joinV (h.know w) (h.know o)) j) j = allV (h.know j) j := fun j hj => by
    rw [hd j j hj (by omega)]
    split
    · rename_i e; subst e
      have := H.top o j ho hj; omega
    · rfl
  refine ⟨fun i hi => ?_, fun i j hi hj => ?_, fun i hi => ?_, fun e he => ?_, fun i a hi ha e he hr hq => ?_, H.trans, H.rise⟩
  · show mayV (putK h.know w _ i) = true
    unfold putK; split
    · exact mayV_join _ _
    · exact H.vec i hi
  · show allV (putK h.know w _ i) j ≤ allV (putK h.know w _ j) j
    rw [hdi j hj, hd i j hi (by omega)]
    have h1 := H.top w j hw hj
    have h2 := H.top o j ho hj
    have h3 := H.top i j hi hj
    split <;> omega
  · show allV (putK h.know w _ i) i ≤ ((n + 1 : Nat) : Int)
    rw [hdi i hi]; have := H.cnt i hi; omega
  · obtain ⟨h1, h2, a, h3, h4, h5, h6, h7, h8⟩ := H.evs e he
    refine ⟨h1, h2, a, h3, h4, h5, ?_, h7, fun j hj => ?_⟩
    · show e.q ≤ allV (putK h.know w _ a) a
      rw [hdi a h3]; exact h6
    · show allV e.deps j ≤ allV (putK h.know w _ j) j
      rw [hdi j hj]; exact h8 j hj
  · have hq' : e.q ≤ allV (putK h.know w (joinV (h.know w) (h.know o)) i) a := hq
    show leqV e.deps (putK h.know w _ i) = true
    rw [hd i a hi (by omega)] at hq'
    unfold putK
    by_cases hiw : i = w
    · rw [if_pos hiw] at hq' ⊢
      rcases Int.le_total (allV (h.know w) a) (allV (h.know o) a) with hc | hc
      · exact leq_trans (H.clos o a ho ha e he hr (by omega)) (leq_join _ _).2
      · exact leq_trans (H.clos w a hw ha e he hr (by omega)) (leq_join _ _).1
    · rw [if_neg hiw] at hq' ⊢
      exact H.clos i a hi ha e he hr hq'
theorem inv_event {h : Hist} {n : Nat} (H : InvH h n) (hn : n < 1000) {w : Nat} (hw : w < 3) (e : Ev) (er : e.r = (w : Int)) (eq : e.q = allV (h.know w) w + 1) (ed : e.deps = h.know w) (ep : ownP e.path = true) (eh : mayH e = true) (es : ∀ i, u32 (e.sum i) < 256) :
    InvH ⟨putK h.know w (withV (h.know w) e.r e.q), h.out ++ [e]⟩ (n + 1) := by
  have hc := H.cnt w hw
  have hp := (allV_bd (h.know w) w).1
  have hmd : mayD e.r e.q = true := by rw [er, eq]; unfold mayD; rw [decide_eq_true_eq]; omega
  have hd : ∀ i j, i < 3 → j < 32 → allV (putK h.know w (withV (h.know w) e.r e.q) i) j = if i = w then (if j = w then e.q else allV (h.know w) j) else allV (h.know i) j := fun i j hi hj => by
    unfold putK; split
    · rw [all_with _ _ _ hj, withN_max, hmd, er]
      by_cases hjw : j = w
      · subst hjw; rw [if_pos ⟨rfl, rfl⟩, if_pos rfl]; omega
      · rw [if_neg (by omega), if_neg hjw]
    · rfl
  have hle : ∀ i j, i < 3 → j < 32 → allV (h.know i) j ≤ allV (putK h.know w (withV (h.know w) e.r e.q) i) j := fun i j hi hj => by
    rw [hd i j hi hj]
    by_cases hiw : i = w
    · subst hiw; rw [if_pos rfl]; split
      · rename_i e'; subst e'; omega
      · omega
    · rw [if_neg hiw]; omega
  have hnew : mayE e = true := by
    simp only [mayE, knownE, Bool.and_eq_true, decide_eq_true_eq]
    refine ⟨hmd, ⟨by rw [ed]; exact H.vec w hw, ?_⟩, ep, eh⟩
    rw [ed, er, eq, getV_nat _ (by omega)]; omega
  have htop : ∀ i j, i < 3 → j < 3 → allV (putK h.know w (withV (h.know w) e.r e.q) i) j ≤ allV (putK h.know w (withV (h.know w) e.r e.q) j) j := fun i j hi hj => by
    have h3 := H.top i j hi hj
    have h4 := hle j j hj (by omega)
    rw [hd i j hi (by omega)]
    by_cases hiw : i = w
    · subst hiw; rw [if_pos rfl]; split
      · rename_i e'; subst e'; rw [hd j j hj (by omega), if_pos rfl, if_pos rfl]; omega
      · omega
    · rw [if_neg hiw]; omega
  have hclos : ∀ i a : Nat, i < 3 → a < 3 → ∀ f ∈ h.out ++ [e], f.r = (a : Int) → f.q ≤ allV (putK h.know w (withV (h.know w) e.r e.q) i) a → leqV f.deps (putK h.know w (withV (h.know w) e.r e.q) i) = true := fun i a hi ha f hf hr hq => by
    rcases List.mem_append.1 hf with hf | hf
    · obtain ⟨-, -, a', h3, h4, h5, h6, h7, h8⟩ := H.evs f hf
      obtain rfl : a' = a := by omega
      have hq' : f.q ≤ allV (h.know i) a' := by
        rw [hd i a' hi (by omega)] at hq
        by_cases hiw : i = w
        · subst hiw; rw [if_pos rfl] at hq
          by_cases hjw : a' = i
          · subst hjw; exact h6
          · rwa [if_neg hjw] at hq
        · rwa [if_neg hiw] at hq
      have hl := H.clos i a' hi ha f hf hr hq'
      rw [leqV_iff] at hl ⊢
      exact fun j hj => Int.le_trans (hl j hj) (hle i j hi hj)
    · obtain rfl : f = e := by simpa using hf
      obtain rfl : w = a := by omega
      rw [hd i w hi (by omega)] at hq
      by_cases hiw : i = w
      · subst hiw
        rw [leqV_iff, ed]
        exact fun j hj => hle i j hi hj
      · rw [if_neg hiw] at hq
        have := H.top i w hi hw; omega
  refine ⟨fun i hi => ?_, htop, fun i hi => ?_, fun f hf => ?_, hclos, fun f hf g hg a ha hr hq => ?_, ?_⟩
  · show mayV (putK h.know w _ i) = true
    unfold putK; split
    · exact mayV_with _ _ _
    · exact H.vec i hi
  · show allV (putK h.know w _ i) i ≤ ((n + 1 : Nat) : Int)
    have := H.cnt i hi
    rw [hd i i hi (by omega)]
    by_cases hiw : i = w
    · subst hiw; rw [if_pos rfl, if_pos rfl]; omega
    · rw [if_neg hiw]; omega
  · rcases List.mem_append.1 hf with hf | hf
    · obtain ⟨h1, h2, a, h3, h4, h5, h6, h7, h8⟩ := H.evs f hf
      refine ⟨h1, h2, a, h3, h4, h5, Int.le_trans h6 (hle a a h3 (by omega)), h7, fun j hj => Int.le_trans (h8 j hj) (hle j j hj (by omega))⟩
    · obtain rfl : f = e := by simpa using hf
      refine ⟨hnew, es, w, hw, er, by omega, ?_, by rw [ed]; omega, fun j hj => ?_⟩
      · show f.q ≤ allV (putK h.know w _ w) w
        rw [hd w w hw (by omega), if_pos rfl, if_pos rfl]; omega
      · show allV f.deps j ≤ allV (putK h.know w _ j) j
        rw [ed]
        exact Int.le_trans (H.top w j hw hj) (hle j j hj (by omega))
  · rcases List.mem_append.1 hf with hf1 | hf1
    · rcases List.mem_append.1 hg with hg1 | hg1
      · exact H.trans f hf1 g hg1 a ha hr hq
      · obtain ⟨-, -, -, -, -, -, -, -, h8⟩ := H.evs f hf1
        obtain rfl : g = e := by simpa using hg1
        obtain rfl : w = a := by omega
        have := h8 w hw; omega
    · obtain rfl : f = e := by simpa using hf1
      rcases List.mem_append.1 hg with hg1 | hg1
      · rw [ed] at hq ⊢
        exact H.clos w a hw ha g hg1 hr hq
      · obtain rfl : g = f := by simpa using hg1
        exact leq_refl _
  · show List.Pairwise _ (h.out ++ [e])
    rw [List.pairwise_append]
    refine ⟨H.rise, List.pairwise_singleton _ _, fun f hf g hg hrr => ?_⟩
    obtain rfl : g = e := by simpa using hg
    obtain ⟨-, -, a, h3, h4, h5, h6, h7, h8⟩ := H.evs f hf
    obtain rfl : a = w := by omega
    omega
theorem evH_may (h : Hist) (d : DeedT) (hs : d.size < 256) : mayH (evH h d) = true ∧ ∀ i, u32 ((evH h d).sum i) < 256 := by
  cases hg : d.gone with
  | true => exact ⟨by simp [mayH, evH, hg, sameRow_self], fun i => by simp only [evH, hg]; exact zeroF_byt i⟩
  | false => exact ⟨by simp [mayH, evH, hg]; omega, fun i => by simp only [evH, hg]; exact sizeF_lt hs i⟩
theorem inv_step {h : Hist} {n : Nat} (H : InvH h n) (hn : n < 1000) {d : DeedT} (hs : d.size < 256) : InvH (stepH h d) (n + 1) := by
  have hw : d.who % 3 < 3 := Nat.mod_lt _ (by decide)
  unfold stepH
  split
  · exact inv_learn H hw (Nat.mod_lt _ (by decide))
  · obtain ⟨h1, h2⟩ := evH_may h d hs
    exact inv_event H hn hw (evH h d) rfl (by show getV _ _ + 1 = _; rw [getV_nat _ (by omega)]) rfl (path_own (Nat.mod_lt _ (by decide))) h1 h2
theorem inv_fold : ∀ (l : List DeedT) (h : Hist) (n : Nat), InvH h n → n + l.length ≤ 1000 → (∀ d ∈ l, d.size < 256) → InvH (l.foldl stepH h) (n + l.length)
  | [], h, n, H, _, _ => H
  | d :: t, h, n, H, hn, hs => by
    rw [List.length_cons] at hn ⊢
    have := inv_fold t (stepH h d) (n + 1) (inv_step H (by omega) (hs d (by simp))) (by omega) (fun x hx => hs x (by simp [hx]))
    rw [show n + (t.length + 1) = n + 1 + t.length by omega]
    exact this
theorem inv_hist (l : List DeedT) (hs : ∀ d ∈ l, d.size < 256) : ∃ n, InvH (histN l) n := by
  have hl : (l.take 40).length ≤ 40 := by rw [List.length_take]; omega
  exact ⟨_, inv_fold (l.take 40) hist0 0 inv0 (by omega) (fun d hd => hs d (List.mem_of_mem_take hd))⟩
/-- What the statement asks of any two events of a history. -/
theorem hist_says {h : Hist} {n : Nat} (H : InvH h n) {i k : Nat} {e f : Ev} (he : h.out[i]? = some e) (hf : h.out[k]? = some f) :
    mayE e = true ∧ hasV e.deps e.r e.q = false ∧ (hasV e.deps f.r f.q = true → hasV f.deps e.r e.q = false ∧ leqV f.deps e.deps = true) ∧ (i ≠ k → ¬ (e.r = f.r ∧ e.q = f.q)) := by
  have hme : e ∈ h.out := List.mem_of_getElem? he
  have hmf : f ∈ h.out := List.mem_of_getElem? hf
  obtain ⟨e1, -, a, e3, e4, e5, e6, e7, e8⟩ := H.evs e hme
  obtain ⟨f1, -, b, f3, f4, f5, f6, f7, f8⟩ := H.evs f hmf
  have hself : hasV e.deps e.r e.q = false := by
    cases hc : hasV e.deps e.r e.q with
    | false => rfl
    | true =>
      obtain ⟨i', h1, h2, h3, h4⟩ := (hasV_eq _ _ _).1 hc
      obtain rfl : i' = a := by omega
      omega
  refine ⟨e1, hself, fun hk => ?_, fun hik => ?_⟩
  · obtain ⟨i', h1, h2, h3, h4⟩ := (hasV_eq _ _ _).1 hk
    obtain rfl : i' = b := by omega
    have hl := H.trans e hme f hmf i' f3 f4 h4
    refine ⟨?_, hl⟩
    cases hc : hasV f.deps e.r e.q with
    | false => rfl
    | true =>
      obtain ⟨j', g1, g2, g3, g4⟩ := (hasV_eq _ _ _).1 hc
      obtain rfl : j' = a := by omega
      have := (leqV_iff _ _).1 hl j' g1
      omega
  · rintro ⟨hr, hq⟩
    have hpw := List.pairwise_iff_getElem.1 H.rise
    obtain ⟨hi, hei⟩ := List.getElem?_eq_some_iff.1 he
    obtain ⟨hk, hek⟩ := List.getElem?_eq_some_iff.1 hf
    rcases Nat.lt_or_gt_of_ne hik with hlt | hgt
    · have := hpw i k hi hk hlt (by rw [hei, hek]; exact hr)
      rw [hei, hek] at this; omega
    · have := hpw k i hk hi hgt (by rw [hei, hek]; exact hr.symm)
      rw [hei, hek] at this; omega
end Go.Proofs.YtlcojmligbikoaaGreatDoor
namespace Go.Proofs.YtlcojmligbikoaaGreatDoor
open Go.RowKit
/-- Texts as the cells of a slice. -/
def textsL (ls : List (List UInt8)) : List Value := ls.map fun l => Value.string (str l)
/-- A slice value whose elements are these texts. -/
def HasTexts (w : World) (v : Value) (ls : List (List UInt8)) : Prop :=
  ∃ ao cap, v = .slice ao ls.length cap ∧ (ao = none → ls = [] ∧ cap = 0) ∧ ∀ ad, ao = some ad → ls.length ≤ cap ∧ ∀ j u, (textsL ls)[j]? = some u → w.cell? (ad.add j) = some u
theorem texts_nil (w : World) : HasTexts w (.slice none 0 0) [] := ⟨none, 0, rfl, fun _ => ⟨rfl, rfl⟩, fun _ h => by cases h⟩
theorem texts_of_own {w : World} {base : Nat} {e : TypeId} {v : Value} {ls : List (List UInt8)} (h : w.ownsRow base e 1 v ls.length (textsL ls)) : HasTexts w v ls := by
  rcases h.2 with ⟨rfl, h0⟩ | ⟨g, cap, cur, rfl, rest⟩
  · obtain rfl : ls = [] := List.eq_nil_of_length_eq_zero h0
    exact texts_nil w
  · exact ⟨some ⟨g, 0, none⟩, cap, rfl, (fun h => by cases h), fun ad had => ⟨rest.2.2.1, fun j u hu => by
      cases had; exact h.cells rfl j u hu⟩⟩
theorem texts_below {w w' : World} {v : Value} {ls : List (List UInt8)} (h : HasTexts w v ls) (hb : Below w.heap.size w w') : HasTexts w' v ls := by
  obtain ⟨ao, cap, rfl, hnil, hc⟩ := h
  refine ⟨ao, cap, rfl, hnil, fun ad had => ⟨(hc ad had).1, fun j u hu => ?_⟩⟩
  have h1 := (hc ad had).2 j u hu
  exact (World.cell?_of_block (hb.block (ad.add j).block (World.block_lt_of_cell? w _ h1))).trans h1
/-- A text of such a slice. -/
theorem texts_at {w : World} {v : Value} {ls : List (List UInt8)} (h : HasTexts w v ls) (n k : Nat) (hn : ls.length = n) (hk : k < n) (l : List UInt8) (hl : ls[k]? = some l) : ∃ ad cap, v = .slice (some ad) n cap ∧ w.cell? (ad.add k) = some (.string (str l)) := by
  obtain ⟨ao, cap, rfl, hnil, hcs⟩ := h
  subst hn
  cases ao with
  | none => obtain ⟨hl, _⟩ := hnil rfl; subst hl; simp at hk
  | some ad =>
    refine ⟨ad, cap, rfl, (hcs ad rfl).2 k _ ?_⟩
    simp only [textsL, List.getElem?_map, hl, Option.map]
theorem texts_shape {w : World} {v : Value} {ls : List (List UInt8)} (h : HasTexts w v ls) (n : Nat) (hn : ls.length = n) : ∃ ao cap, v = .slice ao n cap := by
  obtain ⟨ao, cap, rfl, -⟩ := h
  exact ⟨ao, cap, by rw [hn]⟩
end Go.Proofs.YtlcojmligbikoaaGreatDoor
namespace Go.Proofs.YtlcojmligbikoaaGreatDoor
open Go.RowKit
/-- A deed's cells. -/
def deedC (d : DeedT) : List Value := [.int .u8 (d.who : Int), .int .u8 (d.other : Int), .int .u8 (d.path : Int), .bool d.learns, .bool d.gone, .int .u8 (d.size : Int)]
/-- A slice value whose elements are these deeds. -/
def HasDeeds (w : World) (v : Value) (l : List DeedT) : Prop :=
  ∃ ao cap, v = .slice ao l.length cap ∧ (ao = none → l = [] ∧ cap = 0) ∧ ∀ ad, ao = some ad → l.length ≤ cap ∧ ∀ i d, l[i]? = some d → ∀ j u, (deedC d)[j]? = some u → w.cell? (ad.add (i * 6 + j)) = some u
theorem deeds_nil (w : World) : HasDeeds w (.slice none 0 0) [] := ⟨none, 0, rfl, fun _ => ⟨rfl, rfl⟩, fun _ h => by cases h⟩
theorem deeds_below {w w' : World} {v : Value} {l : List DeedT} (h : HasDeeds w v l) (hb : Below w.heap.size w w') : HasDeeds w' v l := by
  obtain ⟨ao, cap, rfl, hnil, hc⟩ := h
  refine ⟨ao, cap, rfl, hnil, fun ad had => ⟨(hc ad had).1, fun i d hi j u hu => ?_⟩⟩
  have h1 := (hc ad had).2 i d hi j u hu
  exact (World.cell?_of_block (hb.block (ad.add (i * 6 + j)).block (World.block_lt_of_cell? w _ h1))).trans h1
theorem deeds_shape {w : World} {v : Value} {l : List DeedT} (h : HasDeeds w v l) (n : Nat) (hn : n = l.length) : ∃ ao cap, v = .slice ao n cap := by
  obtain ⟨ao, cap, rfl, -⟩ := h
  exact ⟨ao, cap, by rw [hn]⟩
end Go.Proofs.YtlcojmligbikoaaGreatDoor
namespace Go.Proofs.YtlcojmligbikoaaGreatDoor
open Go.RowKit
/-- Dots as the cells of a slice. -/
def dotsC : List D2 → List Value
  | [] => []
  | d :: t => .int .i64 d.1 :: .int .i64 d.2 :: dotsC t
theorem dotsC_append (l m : List D2) : dotsC (l ++ m) = dotsC l ++ dotsC m := by
  induction l with
  | nil => rfl
  | cons d t ih => rw [List.cons_append, dotsC, dotsC, ih]; rfl
theorem dotsC_at (l : List D2) : ∀ k d, l[k]? = some d → (dotsC l)[k * 2]? = some (.int .i64 d.1) ∧ (dotsC l)[k * 2 + 1]? = some (.int .i64 d.2) := by
  induction l with
  | nil => intro k d h; simp at h
  | cons y t ih =>
    intro k d h
    cases k with
    | zero => simp at h; subst h; exact ⟨rfl, rfl⟩
    | succ k =>
      have := ih k d (by simpa using h)
      rw [dotsC, show (k + 1) * 2 = k * 2 + 2 from by omega]
      exact this
theorem dotsC_one (l : List D2) : ∀ u ∈ dotsC l, u.oneCell' = true := by
  induction l with
  | nil => intro u h; cases h
  | cons d t ih =>
    intro u hu
    rw [dotsC] at hu
    rcases List.mem_cons.1 hu with rfl | hu
    · rfl
    · rcases List.mem_cons.1 hu with rfl | hu
      · rfl
      · exact ih u hu
/-- A slice value whose elements are these dots. -/
def HasDots (w : World) (v : Value) (l : List D2) : Prop :=
  ∃ ao cap, v = .slice ao l.length cap ∧ (ao = none → l = [] ∧ cap = 0) ∧ ∀ ad, ao = some ad → l.length ≤ cap ∧ ∀ j u, (dotsC l)[j]? = some u → w.cell? (ad.add j) = some u
theorem dots_nil (w : World) : HasDots w (.slice none 0 0) [] := ⟨none, 0, rfl, fun _ => ⟨rfl, rfl⟩, fun _ h => by cases h⟩
theorem dots_below {w w' : World} {v : Value} {l : List D2} (h : HasDots w v l) (hb : Below w.heap.size w w') : HasDots w' v l := by
  obtain ⟨ao, cap, rfl, hnil, hc⟩ := h
  refine ⟨ao, cap, rfl, hnil, fun ad had => ⟨(hc ad had).1, fun j u hu => ?_⟩⟩
  have h1 := (hc ad had).2 j u hu
  exact (World.cell?_of_block (hb.block (ad.add j).block (World.block_lt_of_cell? w _ h1))).trans h1
theorem dots_shape {w : World} {v : Value} {l : List D2} (h : HasDots w v l) (n : Nat) (hn : n = l.length) : ∃ ao cap, v = .slice ao n cap := by
  obtain ⟨ao, cap, rfl, -⟩ := h
  exact ⟨ao, cap, by rw [hn]⟩
theorem addr_next2 (ad : Addr) (k : Nat) : ad.add (k + 1) = ⟨(ad.add k).block, (ad.add k).off + 1, none⟩ := by
  unfold Addr.add
  rw [if_neg (by omega)]
  split
  · rename_i h; subst h; rfl
  · rfl
/-- A dot of such a slice. -/
theorem dots_at {w : World} {v : Value} {l : List D2} (h : HasDots w v l) (n k : Nat) (hn : l.length = n) (d : D2) (hd : l[k]? = some d) : ∃ ad cap, v = .slice (some ad) n cap ∧ w.cell? (ad.add (k * 2)) = some (.int .i64 d.1) ∧ w.cell? ⟨(ad.add (k * 2)).block, (ad.add (k * 2)).off + 1, none⟩ = some (.int .i64 d.2) := by
  obtain ⟨ao, cap, rfl, hnil, hc⟩ := h
  cases ao with
  | none => obtain ⟨rfl, _⟩ := hnil rfl; simp at hd
  | some ad =>
    obtain ⟨p1, p2⟩ := dotsC_at l k d hd
    exact ⟨ad, cap, by rw [← hn], (hc ad rfl).2 _ _ p1, by rw [← addr_next2]; exact (hc ad rfl).2 _ _ p2⟩
theorem dots_of_own {w : World} {base : Nat} {e : TypeId} {v : Value} {l : List D2} (h : w.ownsRow base e 2 v l.length (dotsC l)) : HasDots w v l := by
  rcases h.2 with ⟨rfl, h0⟩ | ⟨g, cap, cur, rfl, rest⟩
  · obtain rfl : l = [] := List.eq_nil_of_length_eq_zero h0
    exact dots_nil w
  · exact ⟨some ⟨g, 0, none⟩, cap, rfl, (fun h => by cases h), fun ad had => ⟨rest.2.2.1, fun j u hu => by
      cases had; exact h.cells rfl j u hu⟩⟩
/-- Dots in a block that holds dots alone. -/
def TypDots (w : World) (v : Value) (l : List D2) : Prop := HasDots w v l ∧ (l = [] ∨ ∃ k cs fr, v.ownBlock = some k ∧ w.heap[k]? = some (.cells cs 29 fr))
theorem typ_nil (w : World) : TypDots w (.slice none 0 0) [] := ⟨dots_nil w, .inl rfl⟩
theorem typ_of_own {w : World} {base : Nat} {v : Value} {l : List D2} (h : w.ownsRow base 29 2 v l.length (dotsC l)) : TypDots w v l := by
  refine ⟨dots_of_own h, ?_⟩
  rcases h.2 with ⟨rfl, h0⟩ | ⟨g, cap, cur, rfl, h1, h2, rest⟩
  · exact .inl (List.eq_nil_of_length_eq_zero h0)
  · exact .inr ⟨g, cur, (0, 0), rfl, h2⟩
theorem typ_below {w w' : World} {v : Value} {l : List D2} (h : TypDots w v l) (hb : Below w.heap.size w w') : TypDots w' v l := by
  refine ⟨dots_below h.1 hb, h.2.elim .inl fun ⟨k, cs, fr, h1, h2⟩ => .inr ⟨k, cs, fr, h1, ?_⟩⟩
  exact (hb.block k (Array.getElem?_eq_some_iff.1 h2).1).trans h2
theorem dots_own_nil (w : World) (e : TypeId) (base : Nat) : w.ownsRow base e 2 (.slice none 0 0) ([] : List D2).length (dotsC []) := ⟨rfl, .inl ⟨rfl, rfl⟩⟩
theorem append_dot {P : Program} {w : World} {ops : Array Oper} {rest : List Oper} {o : Oper} {a : Act} {Q : Exit → Act → World → Prop} (hgd : o.guard = none) (s x : Operand) (t : TypeId)
    (ho : o.op = .call { callee := .builtin .append, args := #[s, x], argTypes := #[t, t] })
    (base : Nat) (e : TypeId) (i : TypeInfo) (ht : P.underlying t = some (.slice e)) (hi : P.info? e = some i) (hz : (i.zero.map (·.cells.size), i.size, i.bytes) = (some 2, 2, 16))
    (v : Value) (l : List D2) (d : D2) (hs : a.eval s = v) (hown : w.ownsRow base e 2 v l.length (dotsC l)) (ad : Addr) (c : Nat) (hx : a.eval x = .slice (some ad) 1 c)
    (hc : w.cell? ad = some (.int .i64 d.1) ∧ w.cell? (ad.add 1) = some (.int .i64 d.2))
    (hlen : l.length + 1 ≤ 2000000) (hbase : base ≤ w.heap.size)
    (h : ∀ v' w', w'.ownsRow base e 2 v' (l ++ [d]).length (dotsC (l ++ [d])) → w.grownBy w' v.ownBlock → wpList P ops Q rest (a.put o.dst v') w') : wpList P ops Q (o :: rest) a w := by
  have hadd : ad.add 0 = ad := by unfold Addr.add; split <;> simp_all
  simp only [Prod.mk.injEq] at hz
  obtain ⟨hz1, hz2, hz3⟩ := hz
  cases hzz : i.zero with
  | none => rw [hzz] at hz1; cases hz1
  | some z =>
    rw [hzz] at hz1
    simp only [Option.map_some, Option.some.injEq] at hz1
    refine wpList_append_own w hgd s x t ho base e i z 2 16 ht hi hzz hz2 hz3 hz1 (by decide) v l.length (dotsC l) hs hown ad 1 c (dotsC [d]) hx rfl (fun j u hj => ?_) (fun u hu => dotsC_one [d] u hu)
      (by unfold maxLen; omega) (by omega) hbase fun v' w' h1 h2 _ => h v' w' (by rw [dotsC_append, List.length_append]; exact h1) h2
    match j, hj with
    | 0, hj => rw [hadd, hc.1]; exact hj
    | 1, hj => rw [hc.2]; exact hj
/-- An array of n numbers, each told by a function of its place. -/
def nums (n : Nat) (f : Nat → Int) : Array Value := ((List.range n).map fun i => Value.int .i64 (f i)).toArray
theorem nums_size (n : Nat) (f : Nat → Int) : (nums n f).size = n := by simp [nums]
theorem nums_get (n : Nat) (f : Nat → Int) (i : Nat) (h : i < n) : (nums n f)[i]? = some (.int .i64 (f i)) := by simp [nums, h]
theorem nums_congr (n : Nat) (f g : Nat → Int) (h : ∀ i, i < n → f i = g i) : nums n f = nums n g := by
  unfold nums; congr 1
  apply List.map_congr_left
  intro i hi
  rw [h i (by simpa using hi)]
theorem nums_set (n : Nat) (f g : Nat → Int) (i : Nat) (x : Int) (h : ∀ j, j < n → (if j = i then x else f j) = g j) : (nums n f).setIfInBounds i (.int .i64 x) = nums n g := by
  rw [← nums_congr n _ _ h]
  apply Array.ext_getElem?
  intro j
  rw [Array.getElem?_setIfInBounds, nums_size]
  by_cases hj : j < n
  · rw [nums_get _ _ _ hj]
    by_cases h : i = j
    · subst h; rw [if_pos rfl, if_pos hj, nums_get _ _ _ hj, if_pos rfl]
    · rw [if_neg h, nums_get _ _ _ hj, if_neg (Ne.symm h)]
  · have e1 : (nums n f)[j]? = none := by rw [Array.getElem?_eq_none_iff, nums_size]; omega
    have e2 : (nums n fun j => if j = i then x else f j)[j]? = none := by rw [Array.getElem?_eq_none_iff, nums_size]; omega
    rw [e1, e2]
    split
    · rw [if_neg (by omega)]
    · rfl
theorem nums_one (n : Nat) (f : Nat → Int) : (nums n f).all (·.oneCell') = true := by simp [nums, Value.oneCell']
theorem nums_cell {w : World} {g n : Nat} {t : TypeId} {f : Nat → Int} (h : w.heap[g]? = some (.cells (nums n f) t (0, 0))) (i : Nat) (hi : i < n) : w.cell? ⟨g, i, none⟩ = some (.int .i64 (f i)) := by
  rw [cell_of_row _ _ i _ _ _ h, nums_get _ _ _ hi]
/-- Two arrays as opaque values, compared by ==. -/
def numsV (n : Nat) (f : Nat → Int) : Value := .agg (nums n f)
/-- An array by value read at a place. -/
theorem index_nums {P : Program} (w : World) {t e : TypeId} {n : Nat} (f : Nat → Int) (i : Nat) (hi : i < n) (ht : P.underlying t = some (.array n e)) (he : P.underlying e = some (.int .i64)) (hc : P.cellsOf e = 1) :
    (Instr.index t (.agg (nums n f)) (.int .i64 (i : Int))).run P w = .ok (.int .i64 (f i)) w := by
  obtain ⟨inf, hinf⟩ := info_of he
  have hg := nums_get n f i hi
  have hn : (0 ≤ (i : Int) ∧ (i : Int) < (n : Int)) := by omega
  simp [Instr.index, run_underlying ht, run_underlying he, run_sizeOf w hinf, asIntOf, hn, hc, hg, hi, isAgg, go_sem]
end Go.Proofs.YtlcojmligbikoaaGreatDoor
namespace Go.Proofs.YtlcojmligbikoaaGreatDoor
open Go.ChangeShapes Go.WideShapes Go.ChangeAt Go.RowKit
set_option maxRecDepth 100000 in
set_option maxHeartbeats 4000000 in
set_option linter.unusedSimpArgs false in
theorem open_deeds {H : Type} {enc : TypeId × Value → H} {w : World} {base : Nat} {sp : Nat → Bool} {held : Bool} {r : Reach} {b0 : Nat} {v : Value} {d : DataW H} {p : List MemPlace} (hv : Value.okWide Tryz.prog w r b0 54 v) (h : DataW.Trod enc Tryz.prog w base sp held 54 v d p) :
    ∃ l : List DeedT, (∀ x ∈ l, x.who < 256 ∧ x.other < 256 ∧ x.path < 256 ∧ x.size < 256) ∧ HasDeeds w v l := by
  have hc0 : Tryz.prog.cellsOf 89 = 6 := by kernel_rfl
  have hc1 : Tryz.prog.cellsOf 5 = 1 := by kernel_rfl
  have hc2 : Tryz.prog.cellsOf 4 = 1 := by kernel_rfl
  obtain ⟨a1, len, cap, rfl⟩ := okWide_slice Tryz.underlying54 hv
  obtain ⟨fuel, hf⟩ := h
  rcases Go.Deep.open_slice Tryz.underlying54 hf with ⟨hcs, -⟩ | ⟨a, len', cap', m, n, D, Pl, hcs, _, hl, hm, hmm, hx, hrow⟩
  · simp [Value.cells] at hcs
    obtain ⟨rfl, rfl, rfl⟩ := hcs
    exact ⟨[], by simp, deeds_nil w⟩
  · simp [Value.cells] at hcs
    obtain ⟨rfl, rfl, rfl⟩ := hcs
    have hlm : len ≤ m := by rw [hmm]; split <;> omega
    have each : ∀ i, i < len → ∃ x : DeedT, (x.who < 256 ∧ x.other < 256 ∧ x.path < 256 ∧ x.size < 256) ∧ ∀ j u, (deedC x)[j]? = some u → w.cell? (a.add (i * 6 + j)) = some u := fun i hi => by
      obtain ⟨cs', h1, h2⟩ := hrow i (by omega)
      rw [hc0] at h1
      obtain ⟨_, hlen, hcell⟩ := World.cells?_some h1
      match cs', hlen with
      | [k0, k1, k2, k3, k4, k5], _ =>
      obtain ⟨ys, m', _, _, _, hl', hf'⟩ := DataW.trod_struct Tryz.underlying89 h2
      match ys, hl' with
      | [y0, y1, y2, y3, y4, y5], _ =>
      have g0 := hf' 0 _ rfl
      have g1 := hf' 1 _ rfl
      have g2 := hf' 2 _ rfl
      have g3 := hf' 3 _ rfl
      have g4 := hf' 4 _ rfl
      have g5 := hf' 5 _ rfl
      simp [hc1, hc2] at g0 g1 g2 g3 g4 g5
      obtain ⟨x0, e0, -, w0⟩ := DataW.trod_int Tryz.underlying5 g0
      obtain ⟨x1, e1, -, w1⟩ := DataW.trod_int Tryz.underlying5 g1
      obtain ⟨x2, e2, -, w2⟩ := DataW.trod_int Tryz.underlying5 g2
      obtain ⟨x3, e3, -⟩ := DataW.trod_bool Tryz.underlying4 g3
      obtain ⟨x4, e4, -⟩ := DataW.trod_bool Tryz.underlying4 g4
      obtain ⟨x5, e5, -, w5⟩ := DataW.trod_int Tryz.underlying5 g5
      simp only [List.cons.injEq, and_true] at e0 e1 e2 e3 e4 e5
      have b0 := wf_u8_bd w0
      have b1 := wf_u8_bd w1
      have b2 := wf_u8_bd w2
      have b5 := wf_u8_bd w5
      refine ⟨⟨x0.toNat, x1.toNat, x2.toNat, x3, x4, x5.toNat⟩, ⟨by show x0.toNat < 256; omega, by show x1.toNat < 256; omega, by show x2.toNat < 256; omega, by show x5.toNat < 256; omega⟩, fun j u hu => ?_⟩
      have hj : j < 6 := by have := (List.getElem?_eq_some_iff.1 hu).1; simpa [deedC] using this
      have hh := hcell j hj
      rw [Go.Deep.add_add] at hh
      rw [hh, ← hu]
      subst e0 e1 e2 e3 e4 e5
      simp only [deedC, Int.toNat_of_nonneg b0.1, Int.toNat_of_nonneg b1.1, Int.toNat_of_nonneg b2.1, Int.toNat_of_nonneg b5.1]
    haveI : Inhabited DeedT := ⟨⟨0, 0, 0, false, false, 0⟩⟩
    obtain ⟨y, hy⟩ := Go.Deep.choose_lt each
    have hulen : ((List.range len).map y).length = len := by simp
    refine ⟨(List.range len).map y, fun x hx => ?_, some a, cap, by rw [hulen], (fun h => by cases h), fun ad had => ⟨by rw [hulen]; exact hl, fun i x hix j u hu => ?_⟩⟩
    · obtain ⟨i, hi, rfl⟩ := List.mem_map.1 hx
      exact (hy i (by simpa using hi)).1
    · cases had
      have hi : i < len := by have := (List.getElem?_eq_some_iff.1 hix).1; simpa using this
      rw [List.getElem?_map, List.getElem?_range hi] at hix
      obtain rfl := Option.some.inj hix
      exact (hy i hi).2 j u hu
end Go.Proofs.YtlcojmligbikoaaGreatDoor
namespace Go.Proofs.YtlcojmligbikoaaGreatDoor
open Go.RowKit
theorem bl_trans : ∀ (a b c : List UInt8), Op.bytesLess a b = true → Op.bytesLess b c = true → Op.bytesLess a c = true
  | [], [], _, h, _ => by simp [Op.bytesLess] at h
  | _ :: _, [], _, h, _ => by simp [Op.bytesLess] at h
  | _, _ :: _, [], _, h => by simp [Op.bytesLess] at h
  | [], _ :: _, _ :: _, _, _ => by simp [Op.bytesLess]
  | x :: a, y :: b, z :: c, h, h' => by
    simp only [Op.bytesLess, Bool.or_eq_true, decide_eq_true_eq, Bool.and_eq_true, beq_iff_eq] at h h' ⊢
    rcases h with h | ⟨rfl, h⟩
    · rcases h' with h' | ⟨rfl, h'⟩
      · exact .inl (UInt8.lt_trans h h')
      · exact .inl h
    · rcases h' with h' | ⟨rfl, h'⟩
      · exact .inl h'
      · exact .inr ⟨rfl, bl_trans a b c h h'⟩
theorem bl_asymm {a b : List UInt8} (h : Op.bytesLess a b = true) : Op.bytesLess b a = false := by
  cases h' : Op.bytesLess b a with
  | false => rfl
  | true => have := bl_trans a b a h h'; rw [bytesLess_irrefl] at this; cases this
theorem bl_tri : ∀ (a b : List UInt8), Op.bytesLess a b = false → Op.bytesLess b a = false → a = b
  | [], [], _, _ => rfl
  | [], _ :: _, h, _ => by simp [Op.bytesLess] at h
  | _ :: _, [], _, h => by simp [Op.bytesLess] at h
  | x :: a, y :: b, h, h' => by
    simp only [Op.bytesLess, Bool.or_eq_false_iff, decide_eq_false_iff_not, Bool.and_eq_false_iff, beq_eq_false_iff_ne] at h h'
    have hxy : x = y := by
      apply UInt8.toNat_inj.1
      have h1 := h.1; have h2 := h'.1
      rw [UInt8.lt_iff_toNat_lt] at h1 h2
      omega
    subst hxy
    rw [bl_tri a b (h.2.resolve_left fun k => k rfl) (h'.2.resolve_left fun k => k rfl)]
/-- Which of two texts is ahead. -/
def cmpB (a b : List UInt8) : Int := if Op.bytesLess a b then -1 else if Op.bytesLess b a then 1 else 0
theorem cmpB_cases (a b : List UInt8) : (cmpB a b = 0 ∧ a = b) ∨ (cmpB a b = -1 ∧ Op.bytesLess a b = true ∧ a ≠ b) ∨ (cmpB a b = 1 ∧ Op.bytesLess b a = true ∧ a ≠ b) := by
  unfold cmpB
  cases h : Op.bytesLess a b with
  | true => exact .inr (.inl ⟨by simp, rfl, fun e => by rw [e, bytesLess_irrefl] at h; cases h⟩)
  | false =>
    cases h' : Op.bytesLess b a with
    | true => exact .inr (.inr ⟨by simp, rfl, fun e => by rw [e, bytesLess_irrefl] at h'; cases h'⟩)
    | false => exact .inl ⟨by simp, bl_tri a b h h'⟩
theorem cmpB_neg (a b : List UInt8) : cmpB b a = -cmpB a b := by
  unfold cmpB
  cases h : Op.bytesLess a b with
  | true => simp [bl_asymm h]
  | false => cases h' : Op.bytesLess b a <;> simp
def cmpE (e f : Ev) : Int := if cmpB e.path f.path = 0 then cmpD e.r e.q f.r f.q else cmpB e.path f.path
theorem cmpD_neg (r q r' q' : Int) : cmpD r' q' r q = -cmpD r q r' q' := by
  unfold cmpD
  by_cases h1 : r = r' <;> by_cases h2 : q = q'
  · subst h1; subst h2; simp
  all_goals
    rcases Int.lt_trichotomy r r' with h | h | h <;> rcases Int.lt_trichotomy q q' with k | k | k
    all_goals first
      | (exfalso; omega)
      | (repeat' split
         all_goals omega)
theorem cmpE_neg (e f : Ev) : cmpE f e = -cmpE e f := by
  unfold cmpE
  rw [cmpB_neg e.path f.path, cmpD_neg e.r e.q f.r f.q]
  by_cases h : cmpB e.path f.path = 0
  · rw [if_pos h, if_pos (by omega)]
  · rw [if_neg h, if_neg (by omega)]
theorem cmpE_zero (e f : Ev) : (cmpE e f = 0) ↔ (e.path = f.path ∧ e.r = f.r ∧ e.q = f.q) := by
  unfold cmpE
  rcases cmpB_cases e.path f.path with ⟨h, he⟩ | ⟨h, -, hn⟩ | ⟨h, -, hn⟩
  · rw [if_pos h]
    rcases cmp_cases e.r e.q f.r f.q with ⟨k, k1, k2⟩ | ⟨k, k1⟩ | ⟨k, k1⟩
    · rw [k]; simp [he, k1, k2]
    · rw [k]; constructor
      · intro x; omega
      · rintro ⟨-, x, y⟩; omega
    · rw [k]; constructor
      · intro x; omega
      · rintro ⟨-, x, y⟩; omega
  · rw [if_neg (by omega), h]; constructor
    · intro x; omega
    · rintro ⟨x, -⟩; exact absurd x hn
  · rw [if_neg (by omega), h]; constructor
    · intro x; omega
    · rintro ⟨x, -⟩; exact absurd x hn
theorem cmpD_trans (r q r' q' a b : Int) : (cmpD r q r' q' ≤ 0 → cmpD r' q' a b ≤ 0 → cmpD r q a b ≤ 0) ∧ (cmpD r q r' q' < 0 → cmpD r' q' a b < 0 → cmpD r q a b < 0) := by
  rcases cmp_cases r q r' q' with ⟨h, h1, h2⟩ | ⟨h, h1⟩ | ⟨h, h1⟩ <;> rcases cmp_cases r' q' a b with ⟨k, k1, k2⟩ | ⟨k, k1⟩ | ⟨k, k1⟩ <;> rcases cmp_cases r q a b with ⟨m, m1, m2⟩ | ⟨m, m1⟩ | ⟨m, m1⟩ <;> rw [h, k, m] <;> omega
theorem cmpE_trans (e f g : Ev) : (cmpE e f ≤ 0 → cmpE f g ≤ 0 → cmpE e g ≤ 0) ∧ (cmpE e f < 0 → cmpE f g < 0 → cmpE e g < 0) := by
  have hd := cmpD_trans e.r e.q f.r f.q g.r g.q
  unfold cmpE
  rcases cmpB_cases e.path f.path with ⟨h, he⟩ | ⟨h, hl, hn⟩ | ⟨h, hl, hn⟩ <;> rcases cmpB_cases f.path g.path with ⟨k, ke⟩ | ⟨k, kl, kn⟩ | ⟨k, kl, kn⟩
  · have hz : cmpB e.path g.path = 0 := by rw [he]; exact k
    rw [if_pos h, if_pos k, if_pos hz]; exact hd
  · have hz : cmpB e.path g.path = -1 := by rw [he]; exact k
    rw [if_pos h, if_neg (by omega), if_neg (by omega), k, hz]; omega
  · rw [if_neg (show ¬ cmpB f.path g.path = 0 by omega), k]; omega
  · have hz : cmpB e.path g.path = -1 := by rw [← ke]; exact h
    rw [if_neg (by omega), if_pos k, if_neg (by omega), h, hz]; omega
  · have hz : cmpB e.path g.path = -1 := by unfold cmpB; rw [if_pos (bl_trans _ _ _ hl kl)]
    rw [if_neg (show ¬ cmpB e.path g.path = 0 by omega), hz]; omega
  · rw [if_neg (show ¬ cmpB f.path g.path = 0 by omega), k]; omega
  · rw [if_neg (show ¬ cmpB e.path f.path = 0 by omega), h]; omega
  · rw [if_neg (show ¬ cmpB e.path f.path = 0 by omega), h]; omega
  · rw [if_neg (show ¬ cmpB e.path f.path = 0 by omega), h]; omega
end Go.Proofs.YtlcojmligbikoaaGreatDoor
namespace Go.Proofs.YtlcojmligbikoaaGreatDoor
section
variable {α : Type} (key : α → List UInt8)
def ltK (x y : α) : Bool := Op.bytesLess (key x) (key y)
def leK (x y : α) : Prop := ltK key y x = false
def SortedK (l : List α) : Prop := l.Pairwise (leK key)
def fltK (l : List α) (p : List UInt8) : List α := l.filter fun x => key x == p
/-- Sorted, and of each key in turn as they stood. -/
def StableK (l l' : List α) : Prop := SortedK key l' ∧ (∀ p, fltK key l' p = fltK key l p) ∧ l'.length = l.length
variable {key}
theorem leK_refl (x : α) : leK key x x := bytesLess_irrefl _
theorem leK_trans {x y z : α} (h1 : leK key x y) (h2 : leK key y z) : leK key x z := by
  unfold leK ltK at *
  cases h : Op.bytesLess (key z) (key x) with
  | false => rfl
  | true =>
    rcases cmpB_cases (key x) (key y) with ⟨-, e⟩ | ⟨-, h3, -⟩ | ⟨-, h3, -⟩
    · rw [e] at h; rw [h] at h2; cases h2
    · have := bl_trans _ _ _ h h3; rw [h2] at this; cases this
    · rw [h1] at h3; cases h3
theorem ltK_le {x y : α} (h : ltK key x y = true) : leK key x y := bl_asymm h
theorem ltK_leK {x y z : α} (h1 : ltK key x y = true) (h2 : leK key y z) : ltK key x z = true := by
  unfold leK ltK at *
  rcases cmpB_cases (key y) (key z) with ⟨-, e⟩ | ⟨-, h3, -⟩ | ⟨-, h3, -⟩
  · rw [← e]; exact h1
  · exact bl_trans _ _ _ h1 h3
  · rw [h2] at h3; cases h3
theorem leK_ltK {x y z : α} (h1 : leK key x y) (h2 : ltK key y z = true) : ltK key x z = true := by
  unfold leK ltK at *
  rcases cmpB_cases (key x) (key y) with ⟨-, e⟩ | ⟨-, h3, -⟩ | ⟨-, h3, -⟩
  · rw [e]; exact h2
  · exact bl_trans _ _ _ h3 h2
  · rw [h1] at h3; cases h3
theorem leK_anti {x y : α} (h1 : leK key x y) (h2 : leK key y x) : key x = key y := bl_tri _ _ h2 h1
theorem fltK_append (a b : List α) (p : List UInt8) : fltK key (a ++ b) p = fltK key a p ++ fltK key b p := List.filter_append ..
theorem fltK_cons_eq (x : α) (l : List α) : fltK key (x :: l) (key x) = x :: fltK key l (key x) := by unfold fltK; rw [List.filter_cons]; simp
theorem mem_fltK {l : List α} {p : List UInt8} {x : α} : x ∈ fltK key l p ↔ x ∈ l ∧ key x = p := by unfold fltK; rw [List.mem_filter]; simp
theorem mem_of_flt {a b : List α} (h : ∀ p, fltK key a p = fltK key b p) {x : α} (hx : x ∈ a) : x ∈ b := by
  have h1 : x ∈ fltK key a (key x) := mem_fltK.2 ⟨hx, rfl⟩
  rw [h] at h1
  exact (mem_fltK.1 h1).1
theorem sorted_one : ∀ {a b : List α}, SortedK key a → SortedK key b → (∀ p, fltK key a p = fltK key b p) → a = b
  | [], [], _, _, _ => rfl
  | [], y :: b, _, _, h => by have := mem_of_flt (fun p => (h p).symm) (x := y) (by simp); cases this
  | x :: a, [], _, _, h => by have := mem_of_flt h (x := x) (by simp); cases this
  | x :: a, y :: b, ha, hb, h => by
    obtain ⟨a1, a2⟩ := List.pairwise_cons.1 ha
    obtain ⟨b1, b2⟩ := List.pairwise_cons.1 hb
    have le1 : leK key x y := by
      rcases List.mem_cons.1 (mem_of_flt (fun p => (h p).symm) (x := y) (by simp)) with e | e
      · rw [e]; exact leK_refl _
      · exact a1 y e
    have le2 : leK key y x := by
      rcases List.mem_cons.1 (mem_of_flt h (x := x) (by simp)) with e | e
      · rw [e]; exact leK_refl _
      · exact b1 x e
    have hk := leK_anti le1 le2
    have h1 := h (key x)
    have h2 : fltK key (y :: b) (key x) = y :: fltK key b (key x) := by rw [hk]; exact fltK_cons_eq y b
    rw [fltK_cons_eq, h2] at h1
    obtain ⟨rfl, -⟩ := List.cons.inj h1
    refine congrArg (x :: ·) (sorted_one a2 b2 fun p => ?_)
    have h3 := h p
    unfold fltK at h3 ⊢
    rw [List.filter_cons, List.filter_cons] at h3
    split at h3
    · exact (List.cons.inj h3).2
    · exact h3
theorem stable_one {l a b : List α} (ha : StableK key l a) (hb : StableK key l b) : a = b := sorted_one ha.1 hb.1 fun p => (ha.2.1 p).trans (hb.2.1 p).symm
theorem stable_mem {l a : List α} (h : StableK key l a) {x : α} : x ∈ a ↔ x ∈ l := ⟨mem_of_flt h.2.1, mem_of_flt fun p => (h.2.1 p).symm⟩
theorem stable_nil : StableK key ([] : List α) [] := ⟨List.Pairwise.nil, fun _ => rfl, rfl⟩
theorem stable_sorted {l : List α} (h : SortedK key l) : StableK key l l := ⟨h, fun _ => rfl, rfl⟩
/-- What is strictly above may be passed. -/
theorem flt_pass {a b : List α} (h : ∀ x ∈ a, ∀ y ∈ b, ltK key y x = true) (p : List UInt8) : fltK key (a ++ b) p = fltK key (b ++ a) p := by
  rw [fltK_append, fltK_append]
  by_cases ha : fltK key a p = []
  · rw [ha]; simp
  · have hb : fltK key b p = [] := by
      cases hq : fltK key b p with
      | nil => rfl
      | cons y t =>
        obtain ⟨x, hx⟩ := List.exists_mem_of_ne_nil _ ha
        have h1 := mem_fltK.1 hx
        have h2 := mem_fltK.1 (show y ∈ fltK key b p by rw [hq]; simp)
        have h3 := h x h1.1 y h2.1
        unfold ltK at h3
        rw [h1.2, h2.2, bytesLess_irrefl] at h3; cases h3
    rw [hb]; simp
theorem sorted_append {a b : List α} : SortedK key (a ++ b) ↔ SortedK key a ∧ SortedK key b ∧ ∀ x ∈ a, ∀ y ∈ b, leK key x y := by
  unfold SortedK; rw [List.pairwise_append]
/-- Two sorted lists, cut so that what stands behind the one's cut is above what stands ahead of the other one's. -/
theorem stable_cut {L1 L2 R1 R2 S1 S2 : List α} (h1 : SortedK key (L1 ++ L2)) (h2 : SortedK key (R1 ++ R2)) (h3 : ∀ x ∈ L2, ∀ y ∈ R1, ltK key y x = true) (h4 : ∀ x ∈ L1, ∀ y ∈ R2, leK key x y) (s1 : StableK key (L1 ++ R1) S1) (s2 : StableK key (L2 ++ R2) S2) :
    StableK key (L1 ++ L2 ++ (R1 ++ R2)) (S1 ++ S2) := by
  obtain ⟨a1, a2, a3⟩ := sorted_append.1 h1
  obtain ⟨b1, b2, b3⟩ := sorted_append.1 h2
  refine ⟨sorted_append.2 ⟨s1.1, s2.1, fun x hx y hy => ?_⟩, fun p => ?_, ?_⟩
  · have hx := List.mem_append.1 ((stable_mem s1).1 hx)
    have hy := List.mem_append.1 ((stable_mem s2).1 hy)
    rcases hx with hx | hx <;> rcases hy with hy | hy
    · exact a3 x hx y hy
    · exact h4 x hx y hy
    · exact ltK_le (h3 y hy x hx)
    · exact b3 x hx y hy
  · rw [fltK_append, s1.2.1, s2.2.1]
    have := flt_pass h3 p
    simp only [fltK_append] at this ⊢
    simp only [List.append_assoc]
    rw [← List.append_assoc (fltK key R1 p), ← this]
    simp only [List.append_assoc]
  · rw [List.length_append, s1.2.2, s2.2.2]; simp only [List.length_append]; omega
/-- One, put into what is sorted behind it. -/
theorem stable_left {x : α} {A B : List α} (h : SortedK key (A ++ B)) (h1 : ∀ y ∈ A, ltK key y x = true) (h2 : ∀ y ∈ B, leK key x y) : StableK key (x :: (A ++ B)) (A ++ x :: B) := by
  obtain ⟨a1, a2, a3⟩ := sorted_append.1 h
  refine ⟨sorted_append.2 ⟨a1, List.pairwise_cons.2 ⟨h2, a2⟩, fun y hy z hz => ?_⟩, fun p => ?_, by simp; omega⟩
  · rcases List.mem_cons.1 hz with rfl | hz
    · exact ltK_le (h1 y hy)
    · exact a3 y hy z hz
  · have := flt_pass (a := [x]) (b := A) (fun u hu y hy => by rw [List.mem_singleton.1 hu]; exact h1 y hy) p
    rw [show A ++ x :: B = (A ++ [x]) ++ B by simp, show x :: (A ++ B) = ([x] ++ A) ++ B by simp, fltK_append (A ++ [x]) B, fltK_append ([x] ++ A) B, this]
/-- One, put into what is sorted ahead of it. -/
theorem stable_right {y : α} {A B : List α} (h : SortedK key (A ++ B)) (h1 : ∀ x ∈ A, leK key x y) (h2 : ∀ x ∈ B, ltK key y x = true) : StableK key (A ++ B ++ [y]) (A ++ y :: B) := by
  obtain ⟨a1, a2, a3⟩ := sorted_append.1 h
  refine ⟨sorted_append.2 ⟨a1, List.pairwise_cons.2 ⟨fun z hz => ltK_le (h2 z hz), a2⟩, fun x hx z hz => ?_⟩, fun p => ?_, by simp⟩
  · rcases List.mem_cons.1 hz with rfl | hz
    · exact h1 x hx
    · exact a3 x hx z hz
  · have := flt_pass (a := B) (b := [y]) (fun x hx u hu => by rw [List.mem_singleton.1 hu]; exact h2 x hx) p
    rw [List.append_assoc, fltK_append A (y :: B), fltK_append A (B ++ [y]), this]; rfl
end
end Go.Proofs.YtlcojmligbikoaaGreatDoor
namespace Go.Proofs.YtlcojmligbikoaaGreatDoor
open Go.RowKit
theorem wrap_small6 (p : Nat) (h : p < 9223372036854775808) : IntKind.i64.wrap (p : Int) = (p : Int) := by rw [IntKind.wrap_i64]; omega
end Go.Proofs.YtlcojmligbikoaaGreatDoor
namespace Go.Proofs.YtlcojmligbikoaaGreatDoor
open Go.RowKit
set_option maxRecDepth 100000 in
set_option maxHeartbeats 4000000 in
theorem refUnder_any (s d : List UInt8) (hd : d.length < 1152921504606846976) (w : World) : Calls Tryz.prog 25 #[.string (str s), .string (str d)] w fun e w' => e = .returned (.bool (underP s d)) ∧ w = w' := by
  obtain ⟨n, hn⟩ : ∃ n, n = s.length := ⟨_, rfl⟩
  obtain ⟨m, hm⟩ : ∃ m, m = d.length := ⟨_, rfl⟩
  have hsz : (str s).size = n := by rw [str_size, hn]
  have hdz : (str d).size = m := by rw [str_size, hm]
  have hU := Lib.hid (show underP s d = (decide (m + 1 < n) && (s.take m == d && s.getD m 0 == 47)) by rw [underP, ← hn, ← hm])
  obtain ⟨m1, hm1⟩ : ∃ m1, m1 = m + 1 := ⟨_, rfl⟩
  have e1 : (m : Int) + 1 = (m1 : Int) := by omega
  have e2 := wrap_small6 m1 (by omega)
  have hld : (str d).toList = d := str_toList d
  by_cases hlt : m1 < n
  · have t1 : decide ((m1 : Int) < (n : Int)) = true := decide_eq_true (by omega)
    have hlt2 : (str (s.take m)).toList = s.take m := str_toList _
    obtain ⟨c, hc⟩ : ∃ c, s[m]? = some c := ⟨s[m]'(by omega), List.getElem?_eq_getElem _⟩
    obtain ⟨x, hx⟩ : ∃ x, c.toNat = x := ⟨_, rfl⟩
    have i1 : ∀ h : m < (str s).size, ((str s)[m]'h).toNat = x := fun h => by
      obtain ⟨h', e⟩ := List.getElem?_eq_some_iff.1 hc
      rw [← hx, ← e]; simp [str, ByteArray.getElem_eq_getElem_data]
    have s1 : (str s).extract 0 m = str (s.take m) := by unfold str; rw [ByteArray.extract_mk]; simp
    have q0 : (m1 : Int) < (n : Int) := by omega
    have h47 : (s.getD m 0 == 47) = ((x : Int) == 47) := by
      rw [List.getD_eq_getElem?_getD, hc, Option.getD_some, Bool.eq_iff_iff, beq_iff_eq, beq_iff_eq]
      constructor
      · intro h; subst h; rw [← hx]; rfl
      · intro h; exact UInt8.toNat_inj.1 (by rw [hx, show (47 : UInt8).toNat = 47 from rfl]; omega)
    have q1 : (m : Int) < (n : Int) := by omega
    have HR := Lib.hid (show underP s d = (s.take m == d && ((x : Int) == 47)) by rw [hU.out, decide_eq_true (show m + 1 < n by omega), Bool.true_and, h47])
    have q2 : ¬ (n : Int) < (m : Int) := by omega
    clear hn hm hm1 hlt hd hc hx h47
    cases ht : (s.take m == d) with
    | true =>
      rw [ht] at HR
      go_enter Tryz.func25, Tryz.ntmps25
      go_wp2
      go_ret
      exact ⟨by rw [HR.out]; rfl, rfl⟩
    | false =>
      rw [ht] at HR
      go_enter Tryz.func25, Tryz.ntmps25
      go_wp2
      go_ret
      exact ⟨by rw [HR.out]; rfl, rfl⟩
  · have t1 : decide ((m1 : Int) < (n : Int)) = false := decide_eq_false (by omega)
    have q0 : ¬ (m1 : Int) < (n : Int) := by omega
    have HR := Lib.hid (show underP s d = false by rw [hU.out, decide_eq_false (show ¬ m + 1 < n by omega)]; rfl)
    clear hn hm hm1 hlt hd
    go_enter Tryz.func25, Tryz.ntmps25
    go_wp2
    go_ret
    exact ⟨by rw [HR.out]; rfl, rfl⟩
end Go.Proofs.YtlcojmligbikoaaGreatDoor
