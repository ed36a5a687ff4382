/-
Texts that all claims of this seat share, part 6: Law13Small, HexaCode, Marks, PathSeq, PathPart, PathAll, PathSplit, PathJoin, PathCode, Law12Awake.
-/
import Derived.Test.YthkojphgjlojgaaDoorShelf
import Derived.Shelf.Strings.SplitCore
import Derived.Laws.CopyOwn
import Derived.WalkMore
import Derived.ScopeJumps
import Derived.Lib.Join
import Derived.RangeFuncNested
import Derived.RangeFuncBound
import Derived.RangeFuncCalls
import Derived.RangeFuncLeaves
import Derived.RangeFuncFrom
import Derived.Shelf.Abstract
import Derived.Shelf.RegionOpen
import Derived.WalkKit
import Derived.OwnWalkIn
import Derived.TacticsInMore
import Derived.LoopNIn
import Derived.LoopIn
import Derived.Lib.IndexLaws
import Derived.OneCell
import Derived.BigQuiet
import Derived.Deep.QuietTactic
import Derived.Maps.AppendAt
import Derived.Test.YthkojphgjlojgaaDoorPk5
namespace Go.Proofs.YthkojphgjlojgaaDoor
open Go.RowKit
theorem sameEv_self (e : Ev) : sameEv e e = true := (sameEv_iff e e).2 (by unfold SameE; simp [sameRow])
/-- The number beside a replica's first place in a vector, 0 where there is none. -/
def firstV (l : List D2) (r : Int) : Int := match l.find? fun d => decide (d.1 = r) with | some d => d.2 | none => 0
theorem firstV_at {l : List D2} {r : Int} {i : Nat} {d : D2} (hd : l[i]? = some d) (hr : d.1 = r) (h : ∀ k x, k < i → l[k]? = some x → x.1 ≠ r) : firstV l r = d.2 := by
  unfold firstV
  have : l.find? (fun d => decide (d.1 = r)) = some d := by
    rw [List.find?_eq_some_iff_getElem]
    obtain ⟨hi, rfl⟩ := List.getElem?_eq_some_iff.1 hd
    exact ⟨by simpa using hr, i, hi, rfl, fun j hj => by have := h j _ hj (List.getElem?_eq_getElem (by omega)); simpa using this⟩
  rw [this]
theorem firstV_none {l : List D2} {r : Int} (h : ∀ (k : Nat) (x : D2), l[k]? = some x → x.1 ≠ r) : firstV l r = 0 := by
  unfold firstV
  have : l.find? (fun d => decide (d.1 = r)) = none := by
    rw [List.find?_eq_none]
    intro x hx
    obtain ⟨k, hk, rfl⟩ := List.mem_iff_getElem.1 hx
    simpa using h k _ (List.getElem?_eq_getElem hk)
  rw [this]
set_option maxRecDepth 100000 in
set_option maxHeartbeats 16000000 in
theorem list_true13 (us vs : List (Ev × Value)) (hl : us.length ≤ 50000) (hf : ∀ x ∈ us, x.1.deps.length < 2000000) (he : us.map (·.1) = vs.map (·.1)) (v u : Value) (w : World) (hv : HoldsU w v us) (hd : DepsU w us) (hu : HoldsU w u vs) (hdu : DepsU w vs) : Calls Tryd.prog 21 #[v, u] w fun x w' => x = .returned (.bool true) ∧ Below w.heap.size w w' := by
  obtain ⟨n, hn⟩ : ∃ n, n = us.length := ⟨_, rfl⟩
  have hm : n = vs.length := by
    have := congrArg List.length he
    simp only [List.length_map] at this
    omega
  have hn5 : n ≤ 50000 := by omega
  have HN := Lib.hid hn
  have HM := Lib.hid hm
  obtain ⟨ao, cap, hvs⟩ := holdsU_shape hv n hn
  obtain ⟨bo, cup, hus⟩ := holdsU_shape hu n hm
  subst hvs
  subst hus
  have HV := Lib.hid hv
  have HU := Lib.hid hu
  have HD := Lib.hid hd
  have HDU := Lib.hid hdu
  have HF := Lib.hid hf
  have HE := Lib.hid he
  clear hl hf hv hd hu hdu hn hm he
  go_enter Tryd.func21, Tryd.ntmps21
  go_wp2
  go_loopw [5] (fun c wr => ∃ i : Nat, i ≤ n ∧ c = .int .i64 (i : Int) ∧ Below w.heap.size w wr) (fun c _ => n - (intOf c).toNat)
  case atStart => exact ⟨0, Nat.zero_le _, rfl, Below.refl _ _⟩
  case round =>
    obtain ⟨i, hi, rfl, hb⟩ := hrel
    by_cases hin : i < n
    · obtain ⟨x, hx⟩ : ∃ x, us[i]? = some x := ⟨_, List.getElem?_eq_getElem (by have := HN.out; omega)⟩
      obtain ⟨y, hy⟩ : ∃ y, vs[i]? = some y := ⟨_, List.getElem?_eq_getElem (by have := HM.out; omega)⟩
      obtain ⟨ad, cap', e1, hcx⟩ := holdsU_at HV.out n i HN.out.symm x hx
      cases e1
      obtain ⟨bd, cup', e1, hcy⟩ := holdsU_at HU.out n i HM.out.symm y hy
      cases e1
      have hxy : x.1 = y.1 := by
        have h1 := fst_atM hx
        have h2 := fst_atM hy
        rw [HE.out, h2] at h1
        exact (Option.some.inj h1).symm
      have hdx := HD.out x (List.mem_of_getElem? hx)
      have hdy := HDU.out y (List.mem_of_getElem? hy)
      have hlx := HF.out x (List.mem_of_getElem? hx)
      obtain ⟨e, xv⟩ := x
      obtain ⟨e', yv⟩ := y
      dsimp only at hcx hcy hdx hdy hlx hxy
      subst hxy
      have CX := Lib.hid hcx
      have CY := Lib.hid hcy
      have HB := Lib.hid hb
      have HX1 := Lib.hid hdx
      have HY1 := Lib.hid hdy
      have SM := Lib.hid (fun w hv hu => refSame_any12 e e hlx xv yv w hv hu)
      rw [sameEv_self] at SM
      have q0 : (i : Int) < (n : Int) := by omega
      clear hx hy hcx hcy hdx hdy hlx hb
      go_upto_region 6 with fail
      refine wp_region_held_drew (S := fun w' => Below w.heap.size w w') (by kernel_rfl) (drawS HB.out) (fun hHeld => ?_)
      generalize wr.drew = wd at hHeld ⊢
      refine take_at (i := 0) 17 rfl rfl (by kernel_rfl) (by kernel_rfl) (by kernel_rfl) (fun _ _ _ h => h) (sure_yes (by rfl) (fun w => by go_simp; try with_reducible rfl)) hHeld ?_
      simp only [List.setIfInBounds_toArray, List.set_cons_zero, List.set_cons_succ]
      refine take_at (i := 1) 18 rfl rfl (by kernel_rfl) (by kernel_rfl) (by kernel_rfl) (fun _ _ _ h => h) (sure_yes (by rfl) (fun w => by go_simp; try with_reducible rfl)) hHeld ?_
      simp only [List.setIfInBounds_toArray, List.set_cons_zero, List.set_cons_succ]
      refine take_at (i := 2) 19 rfl rfl (by kernel_rfl) (by kernel_rfl) (by kernel_rfl) (fun _ _ _ h => h) (sure_yes (by rfl) (fun w => by go_simp; try with_reducible rfl)) hHeld ?_
      simp only [List.setIfInBounds_toArray, List.set_cons_zero, List.set_cons_succ]
      refine take_at (i := 4) 21 rfl rfl (by kernel_rfl) (by kernel_rfl) (by kernel_rfl) (fun _ _ _ h => h) (sure_yes (by rfl) (fun w => by go_simp; try with_reducible rfl)) hHeld ?_
      simp only [List.setIfInBounds_toArray, List.set_cons_zero, List.set_cons_succ]
      refine take_at (i := 5) 22 rfl rfl (by kernel_rfl) (by kernel_rfl) (by kernel_rfl) (fun _ _ _ h => h) (sure_yes (by rfl) (fun w => by go_simp; try with_reducible rfl)) hHeld ?_
      simp only [List.setIfInBounds_toArray, List.set_cons_zero, List.set_cons_succ]
      refine take_at (i := 6) 23 rfl rfl (by kernel_rfl) (by kernel_rfl) (by kernel_rfl) (fun _ _ _ h => h) (sure_yes (by rfl) (fun w => by go_simp; try with_reducible rfl)) hHeld ?_
      simp only [List.setIfInBounds_toArray, List.set_cons_zero, List.set_cons_succ]
      refine take_at (i := 3) 20 rfl rfl (by kernel_rfl) (by kernel_rfl) (by kernel_rfl) (fun _ _ _ h => h) (evA_yields (by rfl) 36 (.tmp 19) rfl (ad.add (i * 38)) rfl Tryd.underlying36 evSize (fun w h j u hu => cell_under12 (CX.out j u hu) h)) hHeld ?_
      simp only [List.setIfInBounds_toArray, List.set_cons_zero, List.set_cons_succ]
      refine take_at (i := 7) 24 rfl rfl (by kernel_rfl) (by kernel_rfl) (by kernel_rfl) (fun _ _ _ h => h) (evA_yields (by rfl) 36 (.tmp 23) rfl (bd.add (i * 38)) rfl Tryd.underlying36 evSize (fun w h j u hu => cell_under12 (CY.out j u hu) h)) hHeld ?_
      simp only [List.setIfInBounds_toArray, List.set_cons_zero, List.set_cons_succ]
      refine ready_call2 8 25 (by kernel_rfl) rfl rfl (by rfl) 17 (.tmp 20) (.tmp 24) 36 36 rfl (.agg (evC e xv)) (.agg (evC e yv)) rfl rfl (enters_of Tryd.func17 (by kernel_rfl) rfl) _ (SM.out _ (dots_below HX1.out hHeld) (dots_below HY1.out hHeld)) (fun x wz hp => ?_)
      obtain ⟨rfl, hb⟩ := hp
      refine ⟨_, rfl, below_next hHeld hb, ?_⟩
      replace hHeld := below_next hHeld hb
      clear hb
      simp only [List.setIfInBounds_toArray, List.set_cons_zero, List.set_cons_succ]
      refine take_at (i := 9) 26 rfl rfl (by kernel_rfl) (by kernel_rfl) (by kernel_rfl) (fun _ _ _ h => h) (sure_yes (by rfl) (fun w => by go_simp; try with_reducible rfl)) hHeld ?_
      simp only [List.setIfInBounds_toArray, List.set_cons_zero, List.set_cons_succ]
      refine wpAnyH_done (by kernel_rfl) ?_ _
      have HZ := Lib.hid hHeld
      clear hHeld
      go_wp2
      go_roundw
      case rel => exact ⟨i + 1, hin, by go_num, HZ.out⟩
      case measure => simp [intOf]; omega
    · obtain rfl : i = n := by omega
      have HB := Lib.hid hb
      clear hb
      go_wp2
      go_ret
      exact ⟨rfl, HB.out⟩
set_option maxRecDepth 100000 in
set_option maxHeartbeats 16000000 in
theorem seq_any13 (l : List D2) (hl : l.length < 2000000) (r : Int) (v : Value) (w : World) (hv : HasDots w v l) : Calls Tryd.prog 20 #[v, .int .i64 r] w fun x w' => x = .returned (.int .i64 (firstV l r)) ∧ Below w.heap.size w w' := by
  obtain ⟨n, hn⟩ : ∃ n, n = l.length := ⟨_, rfl⟩
  have hn5 : n < 2000000 := by omega
  have HN := Lib.hid hn
  obtain ⟨ao, cap, rfl⟩ := dots_shape hv n hn
  have HV := Lib.hid hv
  clear hv hn hl
  go_enter Tryd.func20, Tryd.ntmps20
  go_wp2
  go_loopw [5] (fun c wr => ∃ i : Nat, i ≤ n ∧ c = .int .i64 (i : Int) ∧ (∀ k x, k < i → l[k]? = some x → x.1 ≠ r) ∧ wr = w) (fun c _ => n - (intOf c).toNat)
  case atStart => exact ⟨0, Nat.zero_le _, rfl, fun k _ hk => absurd hk (Nat.not_lt_zero k), rfl⟩
  case round =>
    obtain ⟨i, hi, rfl, hs, rfl⟩ := hrel
    by_cases hin : i < n
    · have q0 : (i : Int) < (n : Int) := by omega
      obtain ⟨d, hd⟩ : ∃ d, l[i]? = some d := ⟨_, List.getElem?_eq_getElem (by have := HN.out; omega)⟩
      obtain ⟨ad, cap', e1, c0, c1⟩ := dots_at HV.out n i HN.out.symm d hd
      cases e1
      by_cases hr : d.1 = r
      · have HX := Lib.hid (firstV_at hd hr hs)
        have q1 : decide (d.1 = r) = true := by simp [hr]
        have q2 : (d.1 == r) = true := by simp [hr]
        clear hs hd
        go_wp2
        go_ret
        exact ⟨by rw [HX.out]; rfl, Below.refl _ _⟩
      · have q1 : decide (d.1 = r) = false := by simp [hr]
        have q2 : (d.1 == r) = false := by simp [hr]
        have HS := Lib.hid (show ∀ k x, k < i + 1 → l[k]? = some x → x.1 ≠ r from fun k y hk hy => by
          rcases Nat.lt_or_ge k i with h | h
          · exact hs k y h hy
          · obtain rfl : k = i := by omega
            rw [hd] at hy; cases hy; exact hr)
        clear hs hd hr
        go_wp2
        go_roundw
        case rel => exact ⟨i + 1, hin, by go_num, HS.out, trivial⟩
        case measure => simp [intOf]; omega
    · have HX := Lib.hid (firstV_none (r := r) (l := l) (fun k x hk => hs k x (by have := (List.getElem?_eq_some_iff.1 hk).1; have := HN.out; omega) hk))
      have q0 : ¬ (i : Int) < (n : Int) := by omega
      clear hs
      go_wp2
      go_ret
      exact ⟨by rw [HX.out]; rfl, Below.refl _ _⟩
end Go.Proofs.YthkojphgjlojgaaDoor
namespace Go.Proofs.YthkojphgjlojgaaDoor
open Go.RowKit
theorem dec_digs (m : Nat) : Lib.decDigits m = digs m := by
  induction m using Nat.strongRecOn with
  | _ m ih =>
    by_cases h : m < 10
    · rw [digs_lo m h, Lib.decDigits, dif_pos h]
    · rw [digs_hi m (by omega), Lib.decDigits, dif_neg h, ih _ (by omega)]
theorem itoa_num (n : Int) : Lib.itoa n = numL n := by
  unfold Lib.itoa numL
  by_cases h : n < 0
  · rw [if_pos h, if_pos h, dec_digs]
  · rw [if_neg h, if_neg h, dec_digs]; congr 1; omega
theorem number_any (w : World) (n : Int) (h0 : -9223372036854775808 ≤ n) (h1 : n < 9223372036854775808) (hT : PowTab w) :
    Calls Tryd.prog 48 #[.int .i64 n] w fun e w' => e = .returned (.string (str (numL n))) ∧ Below w.heap.size w w' := by
  have HC := Lib.hid (Tryd.strconv_FormatInt_10 n h0 (by omega) w hT)
  go_enter Tryd.func48, Tryd.ntmps48
  go_wp2_with (first | (go_at_call 77; refine HC.out.mono ?_; rintro e w' ⟨rfl, k, os, rfl⟩))
  go_ret
  exact ⟨by rw [itoa_num]; rfl, ⟨rfl, rfl, rfl, by simp [Sort.grow, World.drewN], fun i hi => Array.getElem?_append_left hi⟩⟩
end Go.Proofs.YthkojphgjlojgaaDoor
namespace Go.Proofs.YthkojphgjlojgaaDoor
open Go.RowKit
/-- Pieces, each with the place where it begins. -/
def marksAt (f : Nat) : List (List UInt8) → List (Nat × List UInt8)
  | [] => []
  | p :: ps => (f, p) :: marksAt (f + p.length + 1) ps
def marks (s : List UInt8) : List (Nat × List UInt8) := marksAt 0 (pieces s)
theorem marksAt_snd (f : Nat) (ps : List (List UInt8)) : (marksAt f ps).map (·.2) = ps := by
  induction ps generalizing f with
  | nil => rfl
  | cons p ps ih => rw [marksAt, List.map_cons, ih]
theorem marks_snd (s : List UInt8) : (marks s).map (·.2) = pieces s := marksAt_snd 0 _
/-- The places of the bytes /. -/
def slashes (f : Nat) : List UInt8 → List Nat
  | [] => []
  | c :: t => if c = 47 then f :: slashes (f + 1) t else slashes (f + 1) t
theorem marksAt_fst (f : Nat) (s : List UInt8) : (marksAt f (pieces s)).map (·.1) = f :: (slashes f s).map (· + 1) := by
  induction s generalizing f with
  | nil => rfl
  | cons c t ih =>
    rw [pieces, slashes]
    by_cases h : c = 47
    · rw [if_pos h, if_pos h, marksAt, List.map_cons, List.length_nil, Nat.add_zero, ih (f + 1), List.map_cons]
    · rw [if_neg h, if_neg h]
      have ih := ih (f + 1)
      cases hp : pieces t with
      | nil => exact absurd hp (pieces_ne t)
      | cons p ps =>
        rw [hp, marksAt, List.map_cons, List.cons.injEq] at ih
        simp only [marksAt, List.map_cons, List.length_cons, List.cons.injEq, true_and]
        rw [show f + (p.length + 1) + 1 = f + 1 + p.length + 1 from by omega, ih.2]
theorem marks_fst (s : List UInt8) : (marks s).map (·.1) = 0 :: (slashes 0 s).map (· + 1) := marksAt_fst 0 s
theorem slashes_ge (s : List UInt8) : ∀ f, ∀ j ∈ slashes f s, f ≤ j := by
  induction s with
  | nil => intro f j hj; cases hj
  | cons c t ih =>
    intro f j hj
    rw [slashes] at hj
    by_cases h : c = 47
    · rw [if_pos h] at hj
      rcases List.mem_cons.1 hj with rfl | hj
      · exact Nat.le_refl _
      · have := ih _ _ hj; omega
    · rw [if_neg h] at hj; have := ih _ _ hj; omega
theorem slashes_sorted (s : List UInt8) : ∀ f, (slashes f s).Pairwise (· < ·) := by
  induction s with
  | nil => intro f; exact List.Pairwise.nil
  | cons c t ih =>
    intro f
    rw [slashes]
    by_cases h : c = 47
    · rw [if_pos h]; exact List.Pairwise.cons (fun j hj => by have := slashes_ge t _ _ hj; omega) (ih _)
    · rw [if_neg h]; exact ih _
theorem slashes_mem (s : List UInt8) : ∀ f j, j < s.length → s.getD j 0 = 47 → f + j ∈ slashes f s := by
  induction s with
  | nil => intro f j hj; simp at hj
  | cons c t ih =>
    intro f j hj hs
    rw [slashes]
    cases j with
    | zero => rw [if_pos (by simpa using hs)]; simp
    | succ j =>
      have := ih (f + 1) j (by simpa using hj) (by simpa using hs)
      rw [show f + 1 + j = f + (j + 1) from by omega] at this
      by_cases h : c = 47
      · rw [if_pos h]; exact List.mem_cons.2 (.inr this)
      · rw [if_neg h]; exact this
/-- A place ahead of which all are too far from the end: the first that isn't. -/
theorem cut_at {s : List UInt8} {pre rest : List Nat} {x : Nat} (h : (marks s).map (·.1) = pre ++ x :: rest) (hx : 0 < x) (hxs : x ≤ s.length) (hsl : s.getD (x - 1) 0 = 47) (hall : ∀ y ∈ pre, 100 < s.length - y) (hn : s.length - x ≤ 100) : cutI s = some (x - 1) := by
  refine cut_of (by omega) hsl (by omega) fun j hj h47 => ?_
  have hm : j + 1 ∈ pre ++ x :: rest := by
    rw [← h, marks_fst]
    exact List.mem_cons.2 (.inr (List.mem_map.2 ⟨j, by have := slashes_mem s 0 j (by omega) h47; rwa [Nat.zero_add] at this, rfl⟩))
  have hp : (pre ++ x :: rest).Pairwise (· < ·) := by
    rw [← h, marks_fst]
    refine List.Pairwise.cons (fun j hj => ?_) ?_
    · obtain ⟨i, _, rfl⟩ := List.mem_map.1 hj; omega
    · exact List.pairwise_map.2 ((slashes_sorted s 0).imp fun h => by omega)
  rcases List.mem_append.1 hm with h1 | h1
  · have := hall _ h1; omega
  · rcases List.mem_cons.1 h1 with h1 | h1
    · omega
    · have := (List.pairwise_cons.1 (List.pairwise_append.1 hp).2.1).1 _ h1
      omega
theorem cut_nowhere {s : List UInt8} (hall : ∀ y ∈ (marks s).map (·.1), 100 < s.length - y) : cutI s = none := cut_no fun j hj h47 => by
  have := hall (j + 1) (by
    rw [marks_fst]
    exact List.mem_cons.2 (.inr (List.mem_map.2 ⟨j, by have := slashes_mem s 0 j hj h47; rwa [Nat.zero_add] at this, rfl⟩)))
  omega
/-- A piece with its place, as a function that goes through them hands it on. -/
abbrev Pm (s : List UInt8) := { x : Nat × List UInt8 // x.1 ≤ s.length ∧ (0 < x.1 → s.getD (x.1 - 1) 0 = 47) ∧ x.2.length ≤ s.length }
/-- What a search for / in the rest of a text finds. -/
theorem index_cut (s : List UInt8) (f : Nat) (hf : f ≤ s.length) :
    (Lib.indexByte (str (s.drop f)).data.toList ((47 : Int).toNat.toUInt8) = -1 ∧ marksAt f (pieces (s.drop f)) = [(f, s.drop f)]) ∨
    ∃ o : Nat, Lib.indexByte (str (s.drop f)).data.toList ((47 : Int).toNat.toUInt8) = (o : Int) ∧ f + o < s.length ∧ s.getD (f + o) 0 = 47 ∧
      marksAt f (pieces (s.drop f)) = (f, (s.take (f + o)).drop f) :: marksAt (f + o + 1) (pieces (s.drop (f + o + 1))) := by
  rw [show (str (s.drop f)).data.toList = s.drop f from by simp [str], show (47 : Int).toNat.toUInt8 = 47 from rfl]
  have hge := Lib.indexByte_ge (s.drop f) 47
  by_cases h : Lib.indexByte (s.drop f) 47 = -1
  · refine .inl ⟨h, ?_⟩
    rw [pieces_end _ fun c hc e => ?_]
    · rfl
    · subst e
      obtain ⟨k, hk, e⟩ := List.mem_iff_getElem.1 hc
      exact absurd (by rw [List.getElem?_eq_getElem hk, e]) (Lib.indexByte_none h k)
  · obtain ⟨o, ho⟩ : ∃ o : Nat, Lib.indexByte (s.drop f) 47 = (o : Int) := ⟨(Lib.indexByte (s.drop f) 47).toNat, by omega⟩
    obtain ⟨h1, h2⟩ := Lib.indexByte_some ho
    have hol : o < (s.drop f).length := (List.getElem?_eq_some_iff.1 h1).1
    have hd : (s.drop f).getD o 0 = 47 := by rw [List.getD_eq_getElem?_getD, h1]; rfl
    refine .inr ⟨o, ho, by rw [List.length_drop] at hol; omega, ?_, ?_⟩
    · rw [List.getElem?_drop] at h1
      rw [List.getD_eq_getElem?_getD, h1]; rfl
    · have e : s.drop f = (s.drop f).take o ++ 47 :: (s.drop f).drop (o + 1) := take_slash hol hd
      have e2 : (s.drop f).take o = (s.take (f + o)).drop f := by rw [List.drop_take]; congr 1; omega
      have e3 : (s.drop f).drop (o + 1) = s.drop (f + o + 1) := by rw [List.drop_drop]; congr 1
      have hno : ∀ c ∈ (s.drop f).take o, c ≠ 47 := fun c hc e => by
        subst e
        obtain ⟨k, hk, e⟩ := List.mem_iff_getElem.1 hc
        have hko : k < o := by rw [List.length_take] at hk; omega
        refine h2 k hko ?_
        have := List.getElem?_eq_getElem hk
        rw [e, List.getElem?_take, if_pos hko] at this
        exact this
      have hlen : ((s.take (f + o)).drop f).length = o := by rw [← e2, List.length_take]; omega
      rw [e2] at hno
      conv => lhs; rw [e, e2, e3, pieces_slash _ _ hno, marksAt, hlen]
end Go.Proofs.YthkojphgjlojgaaDoor
namespace Go.Proofs.YthkojphgjlojgaaDoor
open Go.RowKit Go.Shelf
attribute [local go_sem] Oper.semAt_some
theorem seq_wraps (f o m K O G : Nat) (h : f + o < m) (hm : m < 4611686018427387904) (hK : K = f + o) (hO : O = o + 1) (hG : G = f + o + 1) : wrap64 ((f : Int) + (o : Int)) = (K : Int) ∧ wrap64 ((o : Int) + 1) = (O : Int) ∧ wrap64 ((f : Int) + (O : Int)) = (G : Int) ∧ decide ((o : Int) < 0) = false := by
  refine ⟨?_, ?_, ?_, decide_eq_false (by omega)⟩ <;> rw [wrap64] <;> omega
/-- The rest of a text from a place on. -/
theorem slice_from {P : Program} (w : World) (t : TypeId) (s : List UInt8) (f : Nat) (hf : f ≤ s.length) (ht : P.underlying t = some .string) :
    (Instr.slice t (.string (str s)) (some (.int .i64 (f : Int))) none none).run P w = .ok (.string (str (s.drop f))) w := by
  have h := run_slice_string_l w t (str s) ht .i64 f (by omega) (by rw [str_size]; omega)
  have e : (str s).extract (f : Int).toNat (str s).size = str (s.drop f) := by
    rw [str_size]; unfold str; rw [ByteArray.extract_mk, List.take_of_length_le (by simp)]; simp
  rw [e] at h; exact h
theorem mid_le (s : List UInt8) (a b : Nat) : ((s.take a).drop b).length ≤ s.length := by rw [List.length_drop, List.length_take]; omega
theorem slash_ahead {s : List UInt8} {x : Nat} (h : s.getD x 0 = 47) : 0 < x + 1 → s.getD (x + 1 - 1) 0 = 47 := fun _ => h
theorem measure_up7 (m f g : Nat) (h : f < g) (h' : g ≤ m) : m - (intOf (.int .i64 (g : Int))).toNat < m - (intOf (.int .i64 (f : Int))).toNat := by
  simp only [intOf, Int.toNat_natCast]; omega
/-- What a round must leave to the function that is ranged over: the cell of its text. -/
def KeepBox (B : Nat) (W W' : World) : Prop := W'.cell? ⟨B, 0, none⟩ = W.cell? ⟨B, 0, none⟩
theorem keepBox_t {B : Nat} {X Y Z : World} (h : KeepBox B X Y) (k : KeepBox B Y Z) : KeepBox B X Z := Eq.trans k h
theorem keepBox_b {B n : Nat} (hB : B < n) (W : World) (l : Nat) (o o' : Obj) (hl : n ≤ l) (h : W.heap[l]? = some o) (_ : o.isCells = false) (_ : o.isWalk = false) : KeepBox B W (W.putObj l o') :=
  ((Below.refl (B + 1) W).grown (grownBy_putObj' W l o') (by have := (Array.getElem?_eq_some_iff.1 h).1; omega) (fun k e => by cases e; omega)).cell (p := ⟨B, 0, none⟩) (by show B < B + 1; omega)
set_option maxRecDepth 100000 in
set_option maxHeartbeats 4000000 in
theorem seq_in (n : Nat) (hn : 1 ≤ n) (l Bn : Nat) (s : List UInt8) (hs : s.length < 4611686018427387904) (J Jx : List (Pm s) → World → Prop)
    (hY : ∀ pre x W, J pre W → pre.length < s.length + 1 → YieldAt Fence.wide (n - 1) Tryd.prog l #[.int .i64 (x.1.1 : Int), .string (str x.1.2)] W fun e W' =>
      (e = .returned (.bool true) ∧ J (pre ++ [x]) W' ∧ KeepBox Bn W W') ∨ (e = .returned (.bool false) ∧ Jx (pre ++ [x]) W'))
    (W : World) (hBn : W.cell? ⟨Bn, 0, none⟩ = some (.string (str s))) (h0 : J [] W) :
    CallsIn Fence.wide n Tryd.prog 116 #[.func (.yield l) #[] #[], .pointer (some ⟨Bn, 0, none⟩)] W fun e W' => (∃ v, e = .returned v) ∧
      ((∃ ys : List (Pm s), ys.map (·.1) = marks s ∧ J ys W') ∨ (∃ pre : List (Pm s), pre.map (·.1) <+: marks s ∧ Jx pre W')) := by
  obtain ⟨m, hm⟩ : ∃ m, m = s.length := ⟨_, rfl⟩
  have HM := Lib.hid hm
  rw [← hm] at hs
  have HMS := Lib.hid hs
  clear hm hs
  refine callsIn_of_wp Tryd.func116 rfl trivial ?_ rfl
  simp only [Tryd.ntmps116, List.size_toArray, List.length_cons, List.length_nil, Nat.reduceAdd, Nat.reduceSub, Array.replicate_succ, Array.replicate_zero, List.push_toArray, List.append_toArray, List.nil_append, List.cons_append]
  gi_wp2
  gi_loopw [3] (fun x wr => ∃ (f : Nat) (pre : List (Pm s)), f ≤ m ∧ x = .int .i64 f ∧ (0 < f → s.getD (f - 1) 0 = 47) ∧ pre.map (·.1) ++ marksAt f (pieces (s.drop f)) = marks s ∧ pre.length ≤ f ∧ J pre wr ∧ wr.cell? ⟨Bn, 0, none⟩ = some (.string (str s)))
    (fun x _ => m - (intOf x).toNat)
  case atStart => exact ⟨0, [], by omega, rfl, fun h => absurd h (by omega), rfl, Nat.le_refl _, h0, hBn⟩
  case round =>
    obtain ⟨f, pre, hfm, rfl, hsl, hpc, hpl, hJ, hc⟩ := hrel
    have HPC := Lib.hid (And.intro hpc (And.intro hpl hsl))
    clear hpc hsl
    have sl : ∀ w, (Instr.slice 9 (.string (str s)) (some (.int .i64 (f : Int))) none none).run Tryd.prog w = .ok (.string (str (s.drop f))) w := fun w => slice_from w 9 s f (by rw [← HM.out]; exact hfm) Tryd.underlying9
    rcases index_cut s f (by rw [← HM.out]; exact hfm) with ⟨hix, hmk⟩ | ⟨o, hix, hlt, h47, hmk⟩
    · have IX := Lib.hid (show ∀ w, Calls Tryd.prog 117 #[.string (str (s.drop f)), .int .u8 47] w fun e w' => e = .returned (.int .i64 (-1)) ∧ w = w' from fun w => by
        refine (Tryd.strings_IndexByte (str (s.drop f)) 47 w).mono fun e w' h => ?_
        rw [hix] at h; exact ⟨h.1, h.2.symm⟩)
      obtain ⟨p, hp⟩ : ∃ p : Pm s, p.1 = (f, s.drop f) := ⟨⟨(f, s.drop f), by rw [← HM.out]; exact hfm, HPC.out.2.2, by simp⟩, rfl⟩
      have HE := Lib.hid (show (pre ++ [p]).map (·.1) = marks s by
        rw [← HPC.out.1, List.map_append, List.map_cons, List.map_nil, hp, hmk])
      obtain ⟨fn, tmps, assign, body, hy, hR⟩ := hY pre p wr hJ (by have := HM.out; omega)
      rw [hp] at hy
      dsimp only at hy
      clear hp hpl hix hmk
      gi_wp2_with (refine ⟨trivial, ?_⟩; gi_at_call 117; refine (callsIn_wide.2 (IX.out _)).mono ?_; rintro e w' ⟨rfl, rfl⟩)
      refine hR.mono ?_
      rintro e W3 (⟨rfl, hJ3, hk3⟩ | ⟨rfl, hJx3⟩)
      · gi_wp2
        refine bodyPost_ret (results_none rfl _ _ _) rfl ?_
        exact ⟨⟨_, rfl⟩, .inl ⟨pre ++ [p], HE.out, hJ3⟩⟩
      · gi_wp2
        refine bodyPost_ret (results_none rfl _ _ _) rfl ?_
        exact ⟨⟨_, rfl⟩, .inr ⟨pre ++ [p], by rw [HE.out]; exact List.prefix_refl _, hJx3⟩⟩
    · have IX := Lib.hid (show ∀ w, Calls Tryd.prog 117 #[.string (str (s.drop f)), .int .u8 47] w fun e w' => e = .returned (.int .i64 (o : Int)) ∧ w = w' from fun w => by
        refine (Tryd.strings_IndexByte (str (s.drop f)) 47 w).mono fun e w' h => ?_
        rw [hix] at h; exact ⟨h.1, h.2.symm⟩)
      obtain ⟨p, hp⟩ : ∃ p : Pm s, p.1 = (f, (s.take (f + o)).drop f) := ⟨⟨(f, (s.take (f + o)).drop f), by rw [← HM.out]; exact hfm, HPC.out.2.2, mid_le s _ _⟩, rfl⟩
      rw [← HM.out] at hlt
      have sm : ∀ w, (Instr.slice 9 (.string (str s)) (some (.int .i64 (f : Int))) (some (.int .i64 ((f + o : Nat) : Int))) none).run Tryd.prog w = .ok (.string (str ((s.take (f + o)).drop f))) w := fun w => slice_mid w 9 s f (f + o) (Nat.le_add_right _ _) (by rw [← HM.out]; omega) Tryd.underlying9
      have HE := Lib.hid (show (pre ++ [p]).map (·.1) ++ marksAt (f + o + 1) (pieces (s.drop (f + o + 1))) = marks s by
        rw [← HPC.out.1, List.map_append, List.map_cons, List.map_nil, hp, hmk, List.append_assoc]; rfl)
      have H47 := Lib.hid (And.intro h47 hlt)
      obtain ⟨fn, tmps, assign, body, hy, hR⟩ := hY pre p wr hJ (by have := HM.out; omega)
      rw [hp] at hy
      dsimp only at hy
      obtain ⟨K, hK⟩ : ∃ K : Nat, K = f + o := ⟨_, rfl⟩
      obtain ⟨O, hO⟩ : ∃ O : Nat, O = o + 1 := ⟨_, rfl⟩
      obtain ⟨G, hG⟩ : ∃ G : Nat, G = f + o + 1 := ⟨_, rfl⟩
      rw [← hK] at sm hy
      rw [← hG] at HE
      obtain ⟨Q, hQ⟩ : ∃ Q, Q = (s.take K).drop f := ⟨_, rfl⟩
      rw [← hQ] at sm hy
      have HG := Lib.hid (And.intro hG hK)
      obtain ⟨w1, w2, w3, d0⟩ := seq_wraps f o m K O G hlt HMS.out hK hO hG
      clear hp hpl hix hmk hlt h47 hK hO hG hQ
      gi_wp2_with (refine ⟨trivial, ?_⟩; gi_at_call 117; refine (callsIn_wide.2 (IX.out _)).mono ?_; rintro e w' ⟨rfl, rfl⟩)
      refine hR.mono ?_
      rintro e W3 (⟨rfl, hJ3, hk3⟩ | ⟨rfl, hJx3⟩)
      · have hc3 : W3.cell? ⟨Bn, 0, none⟩ = some (.string (str s)) := hk3.trans hc
        gi_wp2
        go_roundw
        case rel => have HW := Lib.hid w3; clear w1 w2 w3; exact ⟨G, pre ++ [p], by have := HG.out; have := H47.out.2; omega, by rw [HW.out], by have := H47.out.1; rw [HG.out.1]; exact slash_ahead this, HE.out, by rw [List.length_append, List.length_singleton]; have := HPC.out.2.1; have := HG.out; omega, hJ3, hc3⟩
        case measure => rw [w3]; clear w1 w2 w3; exact measure_up7 m f G (by have := HG.out; omega) (by have := HG.out; have := H47.out.2; omega)
      · gi_wp2
        refine bodyPost_ret (results_none rfl _ _ _) rfl ?_
        exact ⟨⟨_, rfl⟩, .inr ⟨pre ++ [p], ⟨_, HE.out⟩, hJx3⟩⟩
theorem seq_stops (n : Nat) (hn : 1 ≤ n) (Bn : Nat) (s : List UInt8) (hs : s.length < 4611686018427387904) (w : World) (hw : Bn < w.heap.size) (hc : w.cell? ⟨Bn, 0, none⟩ = some (.string (str s))) :
    SeqStopsK Fence.wide n Tryd.prog 116 #[.pointer (some ⟨Bn, 0, none⟩)] (fun x : Pm s => #[.int .i64 (x.1.1 : Int), .string (str x.1.2)]) (KeepBox Bn) (fun xs => xs.map (·.1) = marks s) (fun pre => pre.map (·.1) <+: marks s) (s.length + 1) w := fun l J Jx W hW _ _ hY h0 =>
  seq_in n hn l Bn s hs J Jx hY W ((hW.cell (p := ⟨Bn, 0, none⟩) hw).trans hc) h0
/-- The function that goes through the parts: it has laid its text into a cell of its own. -/
theorem parts_any (s : List UInt8) (w : World) : Calls Tryd.prog 96 #[.string (str s)] w fun e w' => e = .returned (.func (.func 116) #[] #[.pointer (some ⟨w.heap.size, 0, none⟩)]) ∧ w' = w.alloc (.cells #[.string (str s)] 9) := by
  go_enter Tryd.func96, Tryd.ntmps96
  go_wp2
  go_ret
  exact ⟨rfl, rfl⟩
end Go.Proofs.YthkojphgjlojgaaDoor
namespace Go.Proofs.YthkojphgjlojgaaDoor
open Go.RowKit
theorem mark_at : ∀ x : Fin 256, decide (Lib.indexByte [45, 46, 95, 43, 126] (UInt8.ofNat x.1) ≥ 0) = (decide (x.1 = 45) || (decide (x.1 = 46) || (decide (x.1 = 95) || (decide (x.1 = 43) || decide (x.1 = 126))))) := by decide +kernel
theorem mark_ix (x : Nat) (hx : x < 256) : ∃ z, Lib.indexByte (ByteArray.mk #[45, 46, 95, 43, 126]).data.toList ((x : Int).toNat.toUInt8) = z ∧ decide (z ≥ 0) = (decide (x = 45) || (decide (x = 46) || (decide (x = 95) || (decide (x = 43) || decide (x = 126))))) := ⟨_, rfl, by
  have h := mark_at ⟨x, hx⟩
  rw [Int.toNat_natCast]; exact h⟩
set_option maxHeartbeats 4000000 in
theorem mayStand_any (c : UInt8) (w : World) : Calls Tryd.prog 133 #[.int .u8 (c.toNat : Int)] w fun e w' => e = .returned (.bool (isLet c)) ∧ w = w' := by
  obtain ⟨x, hx⟩ : ∃ x : Nat, x = c.toNat := ⟨_, rfl⟩
  have HX := Lib.hid (isLet_of c x hx)
  obtain ⟨z, hz, hzc⟩ := mark_ix x (by rw [hx]; exact UInt8.toNat_lt c)
  rw [← hx]
  have I1 := Lib.hid (show ∀ w, Calls Tryd.prog 117 #[.string ⟨#[45, 46, 95, 43, 126]⟩, .int .u8 (x : Int)] w fun e w' => e = .returned (.int .i64 z) ∧ w = w' from fun w => by
    refine (Tryd.strings_IndexByte ⟨#[45, 46, 95, 43, 126]⟩ (x : Int) w).mono fun e w' h => ?_
    rw [hz] at h; exact ⟨h.1, h.2.symm⟩)
  obtain ⟨q, hq⟩ : ∃ q, q = (decide (x = 45) || (decide (x = 46) || (decide (x = 95) || (decide (x = 43) || decide (x = 126))))) := ⟨_, rfl⟩
  rw [← hq] at hzc
  have HQ := Lib.hid hq
  clear hz hx hq
  go_enter Tryd.func133, Tryd.ntmps133
  go_wp2_with (first | (go_at_call 117; refine (I1.out _).mono ?_; rintro e w' ⟨rfl, rfl⟩))
  all_goals
    go_ret
    refine ⟨congrArg Ending.returned (show Value.bool _ = Value.bool _ from congrArg Value.bool ?_), rfl⟩
    rw [HX.out]
    try rw [HQ.out]
    rw [Bool.eq_iff_iff]
    simp
    try omega
set_option maxHeartbeats 4000000 in
theorem isPart_any (s : List UInt8) (hs : s.length < 4611686018427387904) (w : World) : Calls Tryd.prog 115 #[.string (str s)] w fun e w' => e = .returned (.bool (isPart s)) ∧ w = w' := by
  obtain ⟨n, hn⟩ : ∃ n, n = s.length := ⟨_, rfl⟩
  have HN := Lib.hid hn
  have hsz : (str s).size = n := by rw [str_size, hn]
  have hl : (str s).toList = s := str_toList s
  rw [← hn] at hs
  clear hn
  by_cases h0 : s = []
  · subst h0
    go_enter Tryd.func115, Tryd.ntmps115
    go_wp2
    go_ret
    exact ⟨rfl, rfl⟩
  by_cases h100 : 100 < n
  · have q0 : (n : Int) > 100 := by omega
    have HP := Lib.hid (show isPart s = false by
      cases h : isPart s with
      | false => rfl
      | true => have := isPart_len h; have := HN.out; omega)
    go_enter Tryd.func115, Tryd.ntmps115
    go_wp2
    go_ret
    exact ⟨by rw [HP.out]; rfl, rfl⟩
  by_cases h1 : s = [46]
  · subst h1
    obtain rfl : n = 1 := HN.out
    go_enter Tryd.func115, Tryd.ntmps115
    go_wp2
    go_ret
    exact ⟨rfl, rfl⟩
  by_cases h2 : s = [46, 46]
  · subst h2
    obtain rfl : n = 2 := HN.out
    go_enter Tryd.func115, Tryd.ntmps115
    go_wp2
    go_ret
    exact ⟨rfl, rfl⟩
  have q0 : ¬ (n : Int) > 100 := by omega
  have e0 : s.isEmpty = false := by cases s with | nil => exact absurd rfl h0 | cons c t => rfl
  have HH := Lib.hid (And.intro h0 (And.intro h100 (And.intro h1 h2)))
  have e1 : (s == [46]) = false := beq_eq_false_iff_ne.2 h1
  have e2 : (s == [46, 46]) = false := beq_eq_false_iff_ne.2 h2
  clear h100 h0 h1 h2
  go_enter Tryd.func115, Tryd.ntmps115
  go_wp2
  go_loopw [21] (fun i wr => wr = w ∧ ∃ k : Nat, k ≤ n ∧ i = .int .i64 k ∧ ∀ j, j < k → ∀ c, s[j]? = some c → isLet c = true) (fun i _ => n - (intOf i).toNat)
  case atStart => exact ⟨rfl, 0, by omega, rfl, fun j hj => by omega⟩
  case round =>
    obtain ⟨rfl, k, hk, rfl, hall⟩ := hrel
    have HA := Lib.hid hall
    clear hall
    by_cases hlt : k < n
    · obtain ⟨c, hc⟩ : ∃ c, s[k]? = some c := ⟨s[k]'(by have := HN.out; omega), List.getElem?_eq_getElem _⟩
      have i1 := fun w => index_str (P := Tryd.prog) w s .i64 k c hc Tryd.underlying9
      have HC := Lib.hid hc
      have q0 : (k : Int) < (n : Int) := by omega
      clear hc
      cases hlet : isLet c with
      | true =>
        have HL := Lib.hid hlet
        have HW := Lib.hid (show ∀ w, Calls Tryd.prog 133 #[.int .u8 (c.toNat : Int)] w fun e w' => e = .returned (.bool true) ∧ w = w' from fun w => by have := mayStand_any c w; rwa [hlet] at this)
        clear hlet
        go_wp2_with (first | (go_at_call 133; refine (HW.out _).mono ?_; rintro e w' ⟨rfl, rfl⟩))
        go_roundw
        case rel => exact ⟨trivial, k + 1, by omega, by go_num, fun j hj c' hc' => by
          rcases Nat.lt_or_ge j k with h | h
          · exact HA.out j h c' hc'
          · obtain rfl : j = k := by omega
            rw [HC.out] at hc'; cases hc'; exact HL.out⟩
        case measure => simp [intOf]; omega
      | false =>
        have HP := Lib.hid (show isPart s = false by
          rw [isPart, Bool.and_eq_false_iff]; left
          rw [Bool.eq_false_iff, ne_eq, List.all_eq_true]
          intro h; have := h c (List.mem_of_getElem? HC.out); rw [hlet] at this; cases this)
        have HW := Lib.hid (show ∀ w, Calls Tryd.prog 133 #[.int .u8 (c.toNat : Int)] w fun e w' => e = .returned (.bool false) ∧ w = w' from fun w => by have := mayStand_any c w; rwa [hlet] at this)
        clear hlet
        go_wp2_with (first | (go_at_call 133; refine (HW.out _).mono ?_; rintro e w' ⟨rfl, rfl⟩))
        go_ret
        exact ⟨by rw [HP.out]; rfl, rfl⟩
    · obtain rfl : k = n := by omega
      have HP := Lib.hid (show isPart s = true by
        have hl : 1 ≤ k := by
          rcases Nat.eq_zero_or_pos k with h | h
          · exact absurd (List.eq_nil_of_length_eq_zero (by rw [← HN.out]; exact h)) HH.out.1
          · exact h
        rw [isPart, ← HN.out, show s.all isLet = true from List.all_eq_true.2 fun c hc => by
          obtain ⟨j, hj, rfl⟩ := List.mem_iff_getElem.1 hc
          exact HA.out j (by rw [HN.out]; exact hj) _ (List.getElem?_eq_getElem hj), decide_eq_true hl, decide_eq_true (show k ≤ 100 by have := HH.out.2.1; omega), bne_iff_ne.2 HH.out.2.2.1, bne_iff_ne.2 HH.out.2.2.2]
        rfl)
      go_wp2
      go_ret
      exact ⟨by rw [HP.out]; rfl, rfl⟩
end Go.Proofs.YthkojphgjlojgaaDoor
namespace Go.Proofs.YthkojphgjlojgaaDoor
open Go.RowKit Go.Shelf
attribute [local go_sem] Oper.semAt_some
theorem cell_new (W : World) (v : Value) (t : TypeId) : (W.alloc (.cells #[v] t)).cell? ⟨W.heap.size, 0, none⟩ = some v ∧ (W.alloc (.cells #[v] t)).frozen? ⟨W.heap.size, 0, none⟩ = false := by
  have h := heap_last W (.cells #[v] t)
  constructor <;> simp only [World.cell?, World.frozen?, h] <;> rfl
/-- One cell, and that it may be written. -/
def Cell1 (g : Nat) (W : World) (x : Value) : Prop := W.cell? ⟨g, 0, none⟩ = some x ∧ W.frozen? ⟨g, 0, none⟩ = false
theorem cell1_own {g : Nat} {A B : World} {x : Value} {row : Option Nat} (hs : Cell1 g A x) (hg : A.grownBy B row) (hr : ∀ r, row = some r → ∃ o : Obj, A.heap[r]? = some o ∧ o.isCells = false) : Cell1 g B x := ⟨cell_kept hs.1 hg hr, (frozen_kept hs.1 hg hr).trans hs.2⟩
theorem cell1_alloc {g : Nat} {A : World} {x : Value} (hs : Cell1 g A x) (o : Obj) : Cell1 g (A.alloc o) x := cell1_own hs (World.grownBy_alloc A o none) (fun r e => by cases e)
theorem cell1_set {g : Nat} {A : World} {x : Value} (hs : Cell1 g A x) (y : Value) : Cell1 g (A.setCell ⟨g, 0, none⟩ y) y := ⟨World.cell?_setCell_same' A ⟨g, 0, none⟩ y (by rw [hs.1]; rfl), by rw [World.frozen?_setCell]; exact hs.2⟩
theorem parts_all {s : List UInt8} {ys : List (Pm s)} (h : ys.map (·.1) = marks s) (hall : ∀ x ∈ ys, isPart x.1.2 = true) : isParts s = true := by
  rw [isParts, List.all_eq_true, ← marks_snd, ← h]
  intro p hp
  obtain ⟨y, hy, rfl⟩ := List.mem_map.1 hp
  obtain ⟨x, hx, rfl⟩ := List.mem_map.1 hy
  exact hall x hx
theorem parts_not {s : List UInt8} {pre : List (Pm s)} (h : pre.map (·.1) <+: marks s) (hex : ∃ x ∈ pre, isPart x.1.2 = false) : isParts s = false := by
  obtain ⟨x, hx, hp⟩ := hex
  rw [isParts, Bool.eq_false_iff, ne_eq, List.all_eq_true]
  intro hall
  have := hall x.1.2 (by
    rw [← marks_snd]
    exact List.mem_map.2 ⟨x.1, h.subset (List.mem_map.2 ⟨x, hx, rfl⟩), rfl⟩)
  rw [hp] at this; cases this
set_option maxRecDepth 100000 in
set_option maxHeartbeats 4000000 in
theorem areParts_any (s : List UInt8) (hs : s.length < 4611686018427387904) (w : World) : Calls Tryd.prog 95 #[.string (str s)] w fun e w' => e = .returned (.bool (isParts s)) ∧ Below w.heap.size w w' := by
  have HS := Lib.hid hs
  clear hs
  refine (callsIn_wide (n := 6)).1 ?_
  refine callsIn_of_wp_marks Tryd.func95 rfl trivial ?_ rfl
  simp only [Tryd.ntmps95, List.size_toArray, List.length_cons, List.length_nil, Nat.reduceAdd, Nat.reduceSub, Array.replicate_succ, Array.replicate_zero, List.push_toArray, List.append_toArray, List.nil_append, List.cons_append]
  refine wpIn_wide.2 ?_
  have HP0 := Lib.hid (parts_any s)
  go_wp2_with (first | (go_at_call 96; have A0 := Lib.hid (cell_new w (.bool false) 4); have B0 := Lib.hid ((Below.refl w.heap.size w).alloc (Nat.le_refl _) (.cells #[.bool false] 4)); have Z0 := Lib.hid (show (w.alloc (.cells #[.bool false] 4)).heap.size = w.heap.size + 1 by simp); generalize w.alloc (.cells #[.bool false] 4) = W0 at *; refine (HP0.out _).mono ?_; rintro e w1 ⟨rfl, rfl⟩))
  have hc := cell_new W0 (.string (str s)) 9
  have C0 := Lib.hid (cell1_alloc (show Cell1 w.heap.size W0 (.bool false) from A0.out) (.cells #[.string (str s)] 9))
  have B1 := Lib.hid (B0.out.alloc B0.out.size (.cells #[.string (str s)] 9))
  refine (wpIn_wide (n := 6)).1 ?_
  refine wpIn_rangeFunc_ownF (F := Fence.wide) rfl (by decide) (gf := 116) (lb := #[.pointer (some ⟨W0.heap.size, 0, none⟩)]) rfl trivial (enters_of Tryd.func116 (by kernel_rfl) rfl)
    (seq_stops 5 (by decide) W0.heap.size s HS.out _ (by simp) hc.1) keepBox_t (keepBox_b (by simp)) (Below.refl _ _) (fun _ => rfl)
    (fun pre W => (Cell1 w.heap.size W (.bool false) ∧ ∀ x ∈ pre, isPart x.1.2 = true) ∧ Below w.heap.size w W)
    (fun c pre W => (Cell1 w.heap.size W (.bool false) ∧ c = .ret ∧ ∃ x ∈ pre, isPart x.1.2 = false) ∧ Below w.heap.size w W)
    (OwnFrom.and (OwnFrom.and (Own.from (fun s A B row hs hg hr => cell1_own hs hg hr) _) (ownFrom_pure _ _)) (ownFrom_below (Nat.le_refl _) (by have := Z0.out; simp; omega)))
    (fun c => OwnFrom.and (OwnFrom.and (Own.from (fun s A B row hs hg hr => cell1_own hs hg hr) _) (ownFrom_pure _ _)) (ownFrom_below (Nat.le_refl _) (by have := Z0.out; simp; omega)))
    ⟨⟨C0.out, fun x hx => by cases hx⟩, B1.out⟩
    (fun x => { tmps := #[.string (str s), undef, .pointer (some ⟨w.heap.size, 0, none⟩), undef, .string (str x.1.2), .string (str s), .func (.func 116) #[] #[.pointer (some ⟨W0.heap.size, 0, none⟩)], .int .i64 (x.1.1 : Int), .string (str x.1.2), undef, undef, undef], defers := [] }) ?assign ?body ?done ?stop
  case assign =>
    intro l x W K hK
    gi_wp2
    exact hK
  case body =>
    rintro l pre x W ⟨⟨hC, hall⟩, hB⟩ _
    have HC := Lib.hid hC
    have HA := Lib.hid (And.intro hall hB)
    clear hall hB
    obtain ⟨c0, f0⟩ := hC
    cases hip : isPart x.1.2 with
    | true =>
      have HI := Lib.hid hip
      have PI := Lib.hid (show ∀ w, Calls Tryd.prog 115 #[.string (str x.1.2)] w fun e w' => e = .returned (.bool true) ∧ w = w' from fun w => by have h := isPart_any x.1.2 (Nat.lt_of_le_of_lt x.2.2.2 HS.out) w; rwa [hip] at h)
      clear hip
      gi_wp2_with (refine ⟨trivial, ?_⟩; gi_at_call 115; refine (CallsIn.inRound l (callsIn_wide.2 (PI.out _))).mono ?_; rintro e w' ⟨rfl, rfl⟩)
      exact ⟨KeepsOthers.refl _, rfl, ⟨HC.out, fun y hy => (List.mem_append.1 hy).elim (HA.out.1 y) (fun e => by rw [List.mem_singleton] at e; subst e; exact HI.out)⟩, HA.out.2⟩
    | false =>
      have HI := Lib.hid hip
      have PI := Lib.hid (show ∀ w, Calls Tryd.prog 115 #[.string (str x.1.2)] w fun e w' => e = .returned (.bool false) ∧ w = w' from fun w => by have h := isPart_any x.1.2 (Nat.lt_of_le_of_lt x.2.2.2 HS.out) w; rwa [hip] at h)
      clear hip
      gi_wp2_with (refine ⟨trivial, ?_⟩; gi_at_call 115; refine (CallsIn.inRound l (callsIn_wide.2 (PI.out _))).mono ?_; rintro e w' ⟨rfl, rfl⟩)
      exact ⟨KeepsOthers.setCell W _ _, ⟨cell1_set HC.out _, rfl, x, List.mem_append.2 (.inr (List.mem_singleton.2 rfl)), HI.out⟩, HA.out.2.setCell (p := ⟨w.heap.size, 0, none⟩) (Nat.le_refl _) _⟩
  case done =>
    rintro D ys W hD hys ⟨⟨hC, hall⟩, hB⟩ hK
    have HC := Lib.hid hC
    have HB := Lib.hid hB
    have HP := Lib.hid (parts_all hys hall)
    have HD := Lib.hid (show W0.heap.size + 1 ≤ D by simpa using hD)
    clear hD hB hall hys
    obtain ⟨c0, f0⟩ := hC
    have HK := Lib.hid hK
    clear hK
    go_wp2
    have hK' := (KeepsOthers.setCell W ⟨w.heap.size, 0, none⟩ (.bool true)).same D _ HK.out rfl
    have hC' := cell1_own (cell1_set HC.out (.bool true)) (grownBy_putObj' _ D (.deferred none)) (fun r e => by cases e; exact ⟨_, hK', rfl⟩)
    refine ⟨by simp, .inl ⟨_, _, rfl, run_takeDeferred hK', ?_⟩⟩
    obtain ⟨r0, -⟩ := hC'
    refine ⟨.bool true, by simp [results, Tryd.f95, go_sem, r0], by rw [HP.out], ?_⟩
    exact (HB.out.setCell (p := ⟨w.heap.size, 0, none⟩) (Nat.le_refl _) _).trans (belowK_b (w := w) (Nat.le_refl _) _ D _ _ (by have := Z0.out; have := HD.out; omega) hK' rfl rfl)
  case stop =>
    rintro D c pre W hD hpre ⟨⟨hC, rfl, hex⟩, hB⟩ hK
    have HC := Lib.hid hC
    have HB := Lib.hid hB
    have HP := Lib.hid (parts_not hpre hex)
    have HD := Lib.hid (show W0.heap.size + 1 ≤ D by simpa using hD)
    clear hD hB hex hpre
    obtain ⟨c0, f0⟩ := hC
    have HK := Lib.hid hK
    clear hK
    gi_wp2
    have hC' := cell1_own HC.out (grownBy_putObj' _ D (.deferred none)) (fun r e => by cases e; exact ⟨_, HK.out, rfl⟩)
    refine ⟨by simp, .inl ⟨_, _, rfl, run_takeDeferred HK.out, ?_⟩⟩
    obtain ⟨r0, -⟩ := hC'
    refine ⟨.bool false, by simp [results, Tryd.f95, go_sem, r0], by rw [HP.out], ?_⟩
    exact HB.out.trans (belowK_b (w := w) (Nat.le_refl _) _ D _ _ (by have := Z0.out; have := HD.out; omega) HK.out rfl rfl)
end Go.Proofs.YthkojphgjlojgaaDoor
namespace Go.Proofs.YthkojphgjlojgaaDoor
open Go.RowKit Go.Shelf
attribute [local go_sem] Oper.semAt_some
/-- Three cells of three blocks, one behind the other. -/
def Cells3 (g : Nat) (W : World) (x y z : Value) : Prop := Cell1 g W x ∧ Cell1 (g + 1) W y ∧ Cell1 (g + 1 + 1) W z
theorem cells3_own {g : Nat} {A B : World} {x y z : Value} {row : Option Nat} (hs : Cells3 g A x y z) (hg : A.grownBy B row) (hr : ∀ r, row = some r → ∃ o : Obj, A.heap[r]? = some o ∧ o.isCells = false) : Cells3 g B x y z := ⟨cell1_own hs.1 hg hr, cell1_own hs.2.1 hg hr, cell1_own hs.2.2 hg hr⟩
theorem cells3_alloc {g : Nat} {A : World} {x y z : Value} (hs : Cells3 g A x y z) (o : Obj) : Cells3 g (A.alloc o) x y z := cells3_own hs (World.grownBy_alloc A o none) (fun r e => by cases e)
theorem cell1_far {g h : Nat} {A : World} {x : Value} (hs : Cell1 g A x) (hn : g ≠ h) (y : Value) : Cell1 g (A.setCell ⟨h, 0, none⟩ y) x := ⟨(World.cell?_setCell_far _ _ _ _ (by simp; omega)).trans hs.1, by rw [World.frozen?_setCell]; exact hs.2⟩
theorem cells3_set {g : Nat} {A : World} {x y z : Value} (hs : Cells3 g A x y z) (x' y' z' : Value) : Cells3 g (((A.setCell ⟨g, 0, none⟩ x').setCell ⟨g + 1, 0, none⟩ y').setCell ⟨g + 1 + 1, 0, none⟩ z') x' y' z' :=
  ⟨cell1_far (cell1_far (cell1_set hs.1 x') (by omega) _) (by omega) _, cell1_far (cell1_set (cell1_far hs.2.1 (by omega) _) y') (by omega) _, cell1_set (cell1_far (cell1_far hs.2.2 (by omega) _) (by omega) _) z'⟩
theorem cell1_below {g n : Nat} {A B : World} {x : Value} (hs : Cell1 g A x) (hb : Below n A B) (hg : g < n) : Cell1 g B x := ⟨(hb.cell (p := ⟨g, 0, none⟩) hg).trans hs.1, (hb.frozen (p := ⟨g, 0, none⟩) hg).trans hs.2⟩
theorem far3_set {k g : Nat} {A : World} {x : Value} (hs : Cell1 k A x) (hk : k < g) (x' y' z' : Value) : Cell1 k (((A.setCell ⟨g, 0, none⟩ x').setCell ⟨g + 1, 0, none⟩ y').setCell ⟨g + 1 + 1, 0, none⟩ z') x :=
  cell1_far (cell1_far (cell1_far hs (by omega) _) (by omega) _) (by omega) _
/-- What Split lays ahead: its text, and three cells for its results. -/
theorem laid4 (w : World) (v x y z : Value) (t t1 t2 t3 : TypeId) : Cell1 w.heap.size ((((w.alloc (.cells #[v] t)).alloc (.cells #[x] t1)).alloc (.cells #[y] t2)).alloc (.cells #[z] t3)) v ∧ Cells3 (w.heap.size + 1) ((((w.alloc (.cells #[v] t)).alloc (.cells #[x] t1)).alloc (.cells #[y] t2)).alloc (.cells #[z] t3)) x y z ∧
    Below w.heap.size w ((((w.alloc (.cells #[v] t)).alloc (.cells #[x] t1)).alloc (.cells #[y] t2)).alloc (.cells #[z] t3)) ∧ ((((w.alloc (.cells #[v] t)).alloc (.cells #[x] t1)).alloc (.cells #[y] t2)).alloc (.cells #[z] t3)).heap.size = w.heap.size + 1 + 1 + 1 + 1 := by
  have h0 : Cell1 w.heap.size (w.alloc (.cells #[v] t)) v := cell_new w v t
  have h1 : Cell1 (w.heap.size + 1) ((w.alloc (.cells #[v] t)).alloc (.cells #[x] t1)) x := by have := cell_new (w.alloc (.cells #[v] t)) x t1; rwa [World.size_alloc] at this
  have h2 : Cell1 (w.heap.size + 1 + 1) (((w.alloc (.cells #[v] t)).alloc (.cells #[x] t1)).alloc (.cells #[y] t2)) y := by have := cell_new ((w.alloc (.cells #[v] t)).alloc (.cells #[x] t1)) y t2; rwa [World.size_alloc, World.size_alloc] at this
  have h3 : Cell1 (w.heap.size + 1 + 1 + 1) ((((w.alloc (.cells #[v] t)).alloc (.cells #[x] t1)).alloc (.cells #[y] t2)).alloc (.cells #[z] t3)) z := by have := cell_new (((w.alloc (.cells #[v] t)).alloc (.cells #[x] t1)).alloc (.cells #[y] t2)) z t3; rwa [World.size_alloc, World.size_alloc, World.size_alloc] at this
  refine ⟨cell1_alloc (cell1_alloc (cell1_alloc h0 _) _) _, ⟨cell1_alloc (cell1_alloc h1 _) _, cell1_alloc h2 _, h3⟩, ?_, by simp⟩
  exact (((((Below.refl w.heap.size w).alloc (Nat.le_refl _) _).alloc (by simp) _).alloc (by simp; omega) _).alloc (by simp; omega) _)
theorem set3_below {n : Nat} {A B : World} (h : Below n A B) (x y z : Value) : Below n A (((B.setCell ⟨n + 1, 0, none⟩ x).setCell ⟨n + 1 + 1, 0, none⟩ y).setCell ⟨n + 1 + 1 + 1, 0, none⟩ z) :=
  ((h.setCell (p := ⟨n + 1, 0, none⟩) (by simp) _).setCell (p := ⟨n + 1 + 1, 0, none⟩) (by simp; omega) _).setCell (p := ⟨n + 1 + 1 + 1, 0, none⟩) (by simp; omega) _
theorem split_no {s : List UInt8} (h : isParts s = false ∨ 254 < s.length) : splitA s = [] ∧ splitB s = [] ∧ splitErr s = 9 := by
  have e : splitR s = none := by rw [splitR, if_pos h]
  simp [splitA, splitB, splitErr, e]
theorem split_short {s : List UInt8} (h : isParts s = true) (h2 : s.length ≤ 100) : splitA s = [] ∧ splitB s = s ∧ splitErr s = 0 := by
  have e : splitR s = some ([], s) := by rw [splitR, if_neg (by rw [h]; simp; omega), if_pos h2]
  simp [splitA, splitB, splitErr, e]
theorem split_none {s : List UInt8} (h : isParts s = true) (h2 : ¬ s.length ≤ 100) (h4 : s.length ≤ 254) (h3 : cutI s = none ∨ ∃ i, cutI s = some i ∧ 155 < i) : splitA s = [] ∧ splitB s = [] ∧ splitErr s = 9 := by
  have e : splitR s = none := by
    rw [splitR, if_neg (by rw [h]; simp; omega), if_neg h2]
    rcases h3 with h3 | ⟨i, h3, h5⟩
    · rw [h3]
    · rw [h3]; simp only; rw [if_pos h5]
  simp [splitA, splitB, splitErr, e]
theorem split_at {s : List UInt8} (h : isParts s = true) (h2 : ¬ s.length ≤ 100) (h4 : s.length ≤ 254) {i : Nat} (h3 : cutI s = some i) (h5 : ¬ 155 < i) : splitA s = s.take i ∧ splitB s = s.drop (i + 1) ∧ splitErr s = 0 := by
  have e : splitR s = some (s.take i, s.drop (i + 1)) := by rw [splitR, if_neg (by rw [h]; simp; omega), if_neg h2, h3]; simp only; rw [if_neg h5]
  simp [splitA, splitB, splitErr, e]
theorem place_wraps (b m : Nat) (hb : b ≤ m) (hm : m < 4611686018427387904) : ∃ d : Nat, d = m - b ∧ wrap64 ((m : Int) - (b : Int)) = (d : Int) := ⟨m - b, rfl, by rw [wrap64]; omega⟩
theorem ahead_wraps (b m : Nat) (hb : b ≤ m) (h1 : 0 < b) (hm : m < 4611686018427387904) : ∃ a : Nat, a = b - 1 ∧ wrap64 ((b : Int) - 1) = (a : Int) := ⟨b - 1, rfl, by rw [wrap64]; omega⟩
/-- How a round leaves Split's loop: with the two fields, or for the prefix is too long. -/
def SplitOut (g : Nat) (s : List UInt8) (br c : Code) (pre : List (Pm s)) (W : World) : Prop :=
  Cell1 g W (.string (str s)) ∧ ∃ pre' x, pre = pre' ++ [x] ∧ (∀ y ∈ pre', 100 < s.length - y.1.1) ∧ s.length - x.1.1 ≤ 100 ∧
    ((c = .ret ∧ ¬ 155 < x.1.1 - 1 ∧ Cells3 (g + 1) W (.string (str (s.take (x.1.1 - 1)))) (.string (str (s.drop x.1.1))) (.int .i64 0)) ∨
     (c = br ∧ 155 < x.1.1 - 1 ∧ Cells3 (g + 1) W (.string ⟨#[]⟩) (.string ⟨#[]⟩) (.int .i64 0)))
theorem splitOut_own {g : Nat} {s : List UInt8} {br c : Code} {pre : List (Pm s)} {A B : World} {row : Option Nat} (h : SplitOut g s br c pre A) (hg : A.grownBy B row) (hr : ∀ r, row = some r → ∃ o : Obj, A.heap[r]? = some o ∧ o.isCells = false) : SplitOut g s br c pre B := by
  obtain ⟨h0, pre', x, h1, h2, h3, h4⟩ := h
  refine ⟨cell1_own h0 hg hr, pre', x, h1, h2, h3, ?_⟩
  rcases h4 with ⟨a, b, c⟩ | ⟨a, b, c⟩
  · exact .inl ⟨a, b, cells3_own c hg hr⟩
  · exact .inr ⟨a, b, cells3_own c hg hr⟩
theorem cell1_drew {g : Nat} {A : World} {x : Value} (h : Cell1 g A x) : Cell1 g A.drew x := ⟨by rw [cell_drew_own]; exact h.1, by rw [frozen_drew_own]; exact h.2⟩
theorem splitOut_ret {g : Nat} {s : List UInt8} {br : Code} {pre : List (Pm s)} {x : Pm s} {W : World} {a b d m : Nat} (hC : Cell1 g W (.string (str s)) ∧ Cells3 (g + 1) W (.string ⟨#[]⟩) (.string ⟨#[]⟩) (.int .i64 0)) (hall : ∀ y ∈ pre, 100 < s.length - y.1.1) (hx : a = b - 1 ∧ ¬ 100 < d) (h1 : ¬ 155 < a) (hb : b = x.1.1 ∧ b ≤ m) (hd : d = m - b) (hm : m = s.length) :
    SplitOut g s br .ret (pre ++ [x]) ((((W.setCell ⟨g + 1, 0, none⟩ (.string (str (s.take a)))).setCell ⟨g + 1 + 1, 0, none⟩ (.string (str (s.drop b)))).setCell ⟨g + 1 + 1 + 1, 0, none⟩ (.int .i64 0)).drew) := by
  obtain ⟨rfl, h2⟩ := hx
  obtain ⟨rfl, h3⟩ := hb
  have hc := cells3_set hC.2 (.string (str (s.take (x.1.1 - 1)))) (.string (str (s.drop x.1.1))) (.int .i64 0)
  exact ⟨cell1_drew (far3_set hC.1 (by omega) _ _ _), pre, x, rfl, hall, by omega, .inl ⟨rfl, h1, cell1_drew hc.1, cell1_drew hc.2.1, cell1_drew hc.2.2⟩⟩
theorem splitOut_cut {s : List UInt8} {pre pre' : List (Pm s)} {x : Pm s} (hp : pre.map (·.1) <+: marks s) (e : pre = pre' ++ [x]) (hall : ∀ y ∈ pre', 100 < s.length - y.1.1) (hx : s.length - x.1.1 ≤ 100) (hl : 100 < s.length) : cutI s = some (x.1.1 - 1) ∧ 0 < x.1.1 := by
  have h0 : 0 < x.1.1 := by omega
  subst e
  obtain ⟨rest, hr⟩ := hp
  refine ⟨cut_at (pre := pre'.map fun y => y.1.1) (rest := rest.map (·.1)) ?_ h0 x.2.1 (x.2.2.1 h0) (fun y hy => ?_) hx, h0⟩
  · rw [← hr]; simp
  · obtain ⟨z, hz, rfl⟩ := List.mem_map.1 hy
    exact hall z hz
theorem all_far {s : List UInt8} {ys : List (Pm s)} (h : ys.map (·.1) = marks s) (hall : ∀ y ∈ ys, 100 < s.length - y.1.1) : cutI s = none := cut_nowhere fun y hy => by
  rw [← h] at hy
  simp only [List.map_map, List.mem_map] at hy
  obtain ⟨z, hz, rfl⟩ := hy
  exact hall z hz
/-- A region that draws its order, in a round: as outside of it, for nothing in it is deferred. -/
theorem wpAnyIn_inRound {F : Fence} {n : Nat} {P : Program} {md : Region.Mode} {ops : Array Oper} {Q : Exit → Act → World → Prop} (l : Nat) (hro : F.round = none) (hnd : ∀ (i : Nat) o, ops[i]? = some o → ∀ c, o.op ≠ .defer c) :
    ∀ fuel listed a w, wpAnyIn F n P md ops Q fuel listed a w → wpAnyIn (F.inRound l) n P md ops Q fuel listed a w := by
  intro fuel
  induction fuel with
  | zero => exact fun _ _ _ h => h
  | succ fuel ih =>
    intro listed a w h
    refine ⟨h.1, fun i hi => ?_⟩
    have h1 := wpOpIn_mono (fun a w => ih (listed.setIfInBounds i true) a w) (h.2 i hi)
    unfold wpOpIn at h1 ⊢
    cases ho : ops[i]? with
    | none => simpa only [ho] using h1
    | some o =>
      simp only [ho] at h1 ⊢
      by_cases hw : Region.wanted o (yielded ops a.tmps) = true
      · rw [if_pos hw] at h1 ⊢
        refine ⟨h1.1, ?_⟩
        have h2 := h1.2
        rw [hro, Oper.semAt_none] at h2
        rw [show (F.inRound l).round = some l from rfl, Oper.semAt_some l _ _ (hnd i o ho)]
        exact h2
      · rw [if_neg hw] at h1 ⊢
        exact h1
theorem wrap_i64 (x : Int) : IntKind.i64.wrap x = wrap64 x := by rw [IntKind.wrap_i64, wrap64]
theorem region_nodefer (ops : Array Oper) (h : ops.all (fun o => match o.op with | .defer _ => false | _ => true) = true) : ∀ (i : Nat) o, ops[i]? = some o → ∀ c, o.op ≠ .defer c := fun i o ho c e => by
  have := Array.all_eq_true_iff_forall_mem.1 h o (Array.mem_of_getElem? ho)
  rw [e] at this; cases this
theorem region_inRound {F : Fence} {n : Nat} {P : Program} {id : Nat} {ops : Array Oper} {Q : Exit → Act → World → Prop} {l : Nat} {a : Act} {w : World} (hm : P.follows .mixedOrders = true) (hro : F.round = none) (hnd : ∀ (i : Nat) o, ops[i]? = some o → ∀ c, o.op ≠ .defer c)
    (h : wpAnyIn F n P .any ops Q ops.size (Array.replicate ops.size false) a w.drew) : (Code.region id ops true).wpIn (F.inRound l) n P Q a w :=
  wpIn_region_any hm (wpAnyIn_inRound l hro hnd _ _ _ _ h)
set_option maxRecDepth 100000 in
set_option maxHeartbeats 4000000 in
theorem split_any (s : List UInt8) (hs : s.length < 4611686018427387904) (w : World) :
    Calls Tryd.prog 80 #[.string (str s)] w fun e w' => e = .returned (.tuple #[.string (str (splitA s)), .string (str (splitB s)), .int .i64 (splitErr s)]) ∧ Below w.heap.size w w' := by
  obtain ⟨m, hm⟩ : ∃ m, m = s.length := ⟨_, rfl⟩
  have HM := Lib.hid hm
  have hsz : (str s).size = m := by rw [str_size, hm]
  have HS := Lib.hid hs
  clear hm hs
  have L4 := Lib.hid (laid4 w (.string (str s)) (.string ⟨#[]⟩) (.string ⟨#[]⟩) (.int .i64 0) 9 9 9 49)
  by_cases hlong : 254 < m
  · have q0 : (m : Int) > 254 := by omega
    have HP := Lib.hid (split_no (s := s) (.inr (by rw [← HM.out]; exact hlong)))
    have L9 := Lib.hid (laid4 w (.string (str s)) (.string ⟨#[]⟩) (.string ⟨#[]⟩) (.int .i64 9) 9 9 9 49)
    clear hlong
    go_enter Tryd.func80, Tryd.ntmps80
    go_wp2
    have ⟨_, ⟨⟨r0, _⟩, ⟨r1, _⟩, ⟨r2, _⟩⟩, hb, _⟩ := L9.out
    refine bodyPost_ret (v := .tuple #[.string ⟨#[]⟩, .string ⟨#[]⟩, .int .i64 9]) (by simp [results, Tryd.f80, go_sem, r0, r1, r2]) rfl ?_
    exact ⟨by rw [HP.out.1, HP.out.2.1, HP.out.2.2]; rfl, hb⟩
  have q0 : ¬ (m : Int) > 254 := by omega
  cases hpa : isParts s with
  | false =>
    have HP := Lib.hid (split_no (s := s) (.inl hpa))
    have HA := Lib.hid (show ∀ w, Calls Tryd.prog 95 #[.string (str s)] w fun e w' => e = .returned (.bool false) ∧ Below w.heap.size w w' from fun w => by have h := areParts_any s HS.out w; rwa [hpa] at h)
    clear hpa hlong
    go_enter Tryd.func80, Tryd.ntmps80
    go_wp2_with (first | (go_at_call 95; generalize (((w.alloc (.cells #[.string (str s)] 9)).alloc (.cells #[.string ⟨#[]⟩] 9)).alloc (.cells #[.string ⟨#[]⟩] 9)).alloc (.cells #[.int .i64 0] 49) = W0 at *; refine (HA.out _).mono ?_; rintro e w1 ⟨rfl, hb⟩; have HB := Lib.hid hb; clear hb; have C0 := Lib.hid (cell1_below L4.out.1 HB.out (by rw [L4.out.2.2.2]; omega)); have C1 := Lib.hid (cell1_below L4.out.2.1.1 HB.out (by rw [L4.out.2.2.2]; omega)); have C2 := Lib.hid (cell1_below L4.out.2.1.2.1 HB.out (by rw [L4.out.2.2.2]; omega)); have C3 := Lib.hid (cell1_below L4.out.2.1.2.2 HB.out (by rw [L4.out.2.2.2]; omega)); have ⟨c0, f0⟩ := C0.out; have ⟨c1, f1⟩ := C1.out; have ⟨c2, f2⟩ := C2.out; have ⟨c3, f3⟩ := C3.out))
    have CC := cells3_set (show Cells3 (w.heap.size + 1) w1 _ _ _ from ⟨C1.out, C2.out, C3.out⟩) (.string ⟨#[]⟩) (.string ⟨#[]⟩) (.int .i64 9)
    have ⟨⟨r0, _⟩, ⟨r1, _⟩, ⟨r2, _⟩⟩ := CC
    refine bodyPost_ret (v := .tuple #[.string ⟨#[]⟩, .string ⟨#[]⟩, .int .i64 9]) (by simp [results, Tryd.f80, go_sem, r0, r1, r2]) rfl ?_
    exact ⟨by rw [HP.out.1, HP.out.2.1, HP.out.2.2]; rfl, set3_below (L4.out.2.2.1.trans (HB.out.mono (by rw [L4.out.2.2.2]; omega))) _ _ _⟩
  | true =>
    have HA := Lib.hid (show ∀ w, Calls Tryd.prog 95 #[.string (str s)] w fun e w' => e = .returned (.bool true) ∧ Below w.heap.size w w' from fun w => by have h := areParts_any s HS.out w; rwa [hpa] at h)
    by_cases h100 : m ≤ 100
    · have HP := Lib.hid (split_short hpa (by rw [← HM.out]; exact h100))
      have q1 : (m : Int) ≤ 100 := by omega
      clear hpa hlong h100
      go_enter Tryd.func80, Tryd.ntmps80
      go_wp2_with (first | (go_at_call 95; generalize (((w.alloc (.cells #[.string (str s)] 9)).alloc (.cells #[.string ⟨#[]⟩] 9)).alloc (.cells #[.string ⟨#[]⟩] 9)).alloc (.cells #[.int .i64 0] 49) = W0 at *; refine (HA.out _).mono ?_; rintro e w1 ⟨rfl, hb⟩; have HB := Lib.hid hb; clear hb; have C0 := Lib.hid (cell1_below L4.out.1 HB.out (by rw [L4.out.2.2.2]; omega)); have C1 := Lib.hid (cell1_below L4.out.2.1.1 HB.out (by rw [L4.out.2.2.2]; omega)); have C2 := Lib.hid (cell1_below L4.out.2.1.2.1 HB.out (by rw [L4.out.2.2.2]; omega)); have C3 := Lib.hid (cell1_below L4.out.2.1.2.2 HB.out (by rw [L4.out.2.2.2]; omega)); have ⟨c0, f0⟩ := C0.out; have ⟨c1, f1⟩ := C1.out; have ⟨c2, f2⟩ := C2.out; have ⟨c3, f3⟩ := C3.out))
      go_region
      go_wp2
      have CC := cells3_set (show Cells3 (w.heap.size + 1) w1 _ _ _ from ⟨C1.out, C2.out, C3.out⟩) (.string ⟨#[]⟩) (.string (str s)) (.int .i64 0)
      have ⟨⟨r0, _⟩, ⟨r1, _⟩, ⟨r2, _⟩⟩ := CC
      refine bodyPost_ret (v := .tuple #[.string ⟨#[]⟩, .string (str s), .int .i64 0]) (by simp [results, Tryd.f80, go_sem, r0, r1, r2]) rfl ?_
      exact ⟨by rw [HP.out.1, HP.out.2.1, HP.out.2.2]; rfl, (set3_below (L4.out.2.2.1.trans (HB.out.mono (by rw [L4.out.2.2.2]; omega))) _ _ _).drew⟩
    have q1 : decide ((m : Int) ≤ 100) = false := decide_eq_false (by omega)
    have HH := Lib.hid (And.intro hpa (And.intro h100 hlong))
    clear hpa hlong h100
    have HP0 := Lib.hid (parts_any s)
    refine (callsIn_wide (n := 6)).1 ?_
    refine callsIn_of_wp_marks Tryd.func80 rfl trivial ?_ rfl
    simp only [Tryd.ntmps80, List.size_toArray, List.length_cons, List.length_nil, Nat.reduceAdd, Nat.reduceSub, Array.replicate_succ, Array.replicate_zero, List.push_toArray, List.append_toArray, List.nil_append, List.cons_append]
    refine wpIn_wide.2 ?_
    go_wp2_with (first | (go_at_call 95; generalize (((w.alloc (.cells #[.string (str s)] 9)).alloc (.cells #[.string ⟨#[]⟩] 9)).alloc (.cells #[.string ⟨#[]⟩] 9)).alloc (.cells #[.int .i64 0] 49) = W0 at *; refine (HA.out _).mono ?_; rintro e w1 ⟨rfl, hb⟩; have HB := Lib.hid hb; clear hb; have C0 := Lib.hid (cell1_below L4.out.1 HB.out (by rw [L4.out.2.2.2]; omega)); have C1 := Lib.hid (cell1_below L4.out.2.1.1 HB.out (by rw [L4.out.2.2.2]; omega)); have C2 := Lib.hid (cell1_below L4.out.2.1.2.1 HB.out (by rw [L4.out.2.2.2]; omega)); have C3 := Lib.hid (cell1_below L4.out.2.1.2.2 HB.out (by rw [L4.out.2.2.2]; omega)); have ⟨c0, f0⟩ := C0.out; have ⟨c1, f1⟩ := C1.out; have ⟨c2, f2⟩ := C2.out; have ⟨c3, f3⟩ := C3.out) | (go_at_call 96; refine (HP0.out _).mono ?_; rintro e w2 ⟨rfl, rfl⟩))
    have hc := cell_new w1 (.string (str s)) 9
    have D0 := Lib.hid (And.intro (cell1_alloc C0.out (.cells #[.string (str s)] 9)) (cells3_alloc (show Cells3 (w.heap.size + 1) w1 _ _ _ from ⟨C1.out, C2.out, C3.out⟩) (.cells #[.string (str s)] 9)))
    have B0 := Lib.hid (L4.out.2.2.1.trans (HB.out.mono (by rw [L4.out.2.2.2]; omega)))
    have B1 := Lib.hid (B0.out.alloc B0.out.size (.cells #[.string (str s)] 9))
    have Z0 := Lib.hid (show w.heap.size + 1 + 1 + 1 + 1 ≤ w1.heap.size by have h1 := HB.out.size; have h2 := L4.out.2.2.2; omega)
    clear c0 f0 c1 f1 c2 f2 c3 f3
    refine (wpIn_wide (n := 6)).1 ?_
    refine wpIn_rangeFunc_ownF (F := Fence.wide) rfl (by decide) (gf := 116) (lb := #[.pointer (some ⟨w1.heap.size, 0, none⟩)]) rfl trivial (enters_of Tryd.func116 (by kernel_rfl) rfl)
      (seq_stops 5 (by decide) w1.heap.size s HS.out _ (by simp) hc.1) keepBox_t (keepBox_b (by simp)) (Below.refl _ _) (fun _ => rfl)
      (fun pre W => ((Cell1 w.heap.size W (.string (str s)) ∧ Cells3 (w.heap.size + 1) W (.string ⟨#[]⟩) (.string ⟨#[]⟩) (.int .i64 0)) ∧ ∀ y ∈ pre, 100 < s.length - y.1.1) ∧ Below w.heap.size w W)
      (fun c pre W => SplitOut w.heap.size s (.exit 0) c pre W ∧ Below w.heap.size w W)
      (OwnFrom.and (OwnFrom.and (Own.from (fun s A B row hs hg hr => ⟨cell1_own hs.1 hg hr, cells3_own hs.2 hg hr⟩) _) (ownFrom_pure _ _)) (ownFrom_below (Nat.le_refl _) (by have := Z0.out; simp; omega)))
      (fun c => OwnFrom.and (Own.from (I := SplitOut w.heap.size s (.exit 0) c) (fun _ A B row hs hg hr => splitOut_own hs hg hr) _) (ownFrom_below (Nat.le_refl _) (by have := Z0.out; simp; omega)))
      ⟨⟨D0.out, fun x hx => by cases hx⟩, B1.out⟩
      (fun x => { tmps := #[.string (str s), .pointer (some ⟨w.heap.size, 0, none⟩), .pointer (some ⟨w.heap.size + 1, 0, none⟩), .pointer (some ⟨w.heap.size + 1 + 1, 0, none⟩), .pointer (some ⟨w.heap.size + 1 + 1 + 1, 0, none⟩), .int .i64 (x.1.1 : Int), .string (str s), .int .i64 (m : Int), .bool false, .bool false, .string (str s), .bool true, .bool false, .bool false, .string (str s), .int .i64 (m : Int), .bool false, undef, .string (str s), .func (.func 116) #[] #[.pointer (some ⟨w1.heap.size, 0, none⟩)], .int .i64 (x.1.1 : Int), .string (str x.1.2), undef, undef, undef, undef, undef, undef, undef, undef, undef, undef, undef, undef, undef, undef, undef], defers := [] }) ?assign ?body ?done ?stop
    case assign =>
      intro l x W K hK
      gi_wp2
      exact hK
    case body =>
      rintro l pre x W ⟨⟨⟨hC, hC3⟩, hall⟩, hB⟩ _
      have HC := Lib.hid (And.intro hC hC3)
      have HA := Lib.hid (And.intro hall hB)
      clear hall hB
      obtain ⟨c0, f0⟩ := hC
      obtain ⟨⟨c1, f1⟩, ⟨c2, f2⟩, ⟨c3, f3⟩⟩ := hC3
      obtain ⟨b, hb⟩ : ∃ b, b = x.1.1 := ⟨_, rfl⟩
      have HBB := Lib.hid (And.intro hb (show b ≤ m by rw [hb, HM.out]; exact x.2.1))
      obtain ⟨d, hd, wd⟩ := place_wraps b m HBB.out.2 (by rw [HM.out]; exact HS.out)
      have HD := Lib.hid hd
      rw [← hb]
      clear hd hb
      by_cases hd100 : 100 < d
      · have t1 : decide ((d : Int) > 100) = true := decide_eq_true (by clear wd; omega)
        have HDD := Lib.hid hd100
        clear hd100
        gi_wp2
        exact ⟨KeepsOthers.refl _, rfl, ⟨HC.out, fun y hy => (List.mem_append.1 hy).elim (HA.out.1 y) (fun e => by rw [List.mem_singleton] at e; subst e; have := HDD.out; rw [HD.out, HBB.out.1, HM.out] at this; exact this)⟩, HA.out.2⟩
      · have t1 : decide ((d : Int) > 100) = false := decide_eq_false (by clear wd; omega)
        have h0 : 0 < b := by have := HH.out.2.1; have := HD.out; have := HBB.out.2; clear wd; omega
        obtain ⟨a, ha, wa⟩ := ahead_wraps b m HBB.out.2 h0 (by rw [HM.out]; exact HS.out)
        have HX := Lib.hid (And.intro ha hd100)
        by_cases h155 : 155 < a
        · have t2 : decide ((a : Int) > 155) = true := decide_eq_true (by clear wd wa; omega)
          have H1 := Lib.hid h155
          clear h155 ha h0 hd100
          gi_wp2
          refine ⟨KeepsOthers.refl _, ⟨HC.out.1, pre, x, rfl, HA.out.1, ?_, .inr ⟨rfl, ?_, HC.out.2⟩⟩, HA.out.2⟩
          · clear wd wa t1 t2; have := HX.out; have := HD.out; have := HM.out; have := HBB.out; omega
          · clear wd wa t1 t2; have := HX.out; have := H1.out; have := HBB.out; omega
        · have t2 : decide ((a : Int) > 155) = false := decide_eq_false (by clear wd wa; omega)
          have H1 := Lib.hid h155
          have sa : ∀ w, (Instr.slice 9 (.string (str s)) none (some (.int .i64 (a : Int))) none).run Tryd.prog w = .ok (.string (str (s.take a))) w := fun w => slice_to w 9 s a (by clear wd wa; have := HBB.out.2; have := HM.out; omega) Tryd.underlying9
          have sb : ∀ w, (Instr.slice 9 (.string (str s)) (some (.int .i64 (b : Int))) none none).run Tryd.prog w = .ok (.string (str (s.drop b))) w := fun w => slice_from w 9 s b (by clear wd wa; have := HBB.out.2; have := HM.out; omega) Tryd.underlying9
          clear h155 ha h0 hd100
          gi_wp2
          refine region_inRound (by kernel_rfl) rfl (region_nodefer _ (by kernel_rfl)) ?_
          refine wpAnyIn_take (i := 1) (v := .int .i64 (b : Int)) rfl rfl (by kernel_rfl) (by kernel_rfl) (by kernel_rfl) (fun _ _ _ h => h) ⟨Or.inl ⟨by rfl, fun w => by go_simp⟩, fun _ => rfl⟩ ?_
          try simp only [List.setIfInBounds_toArray, List.set_cons_zero, List.set_cons_succ]
          refine wpAnyIn_take (i := 2) (v := .int .i64 (a : Int)) rfl rfl (by kernel_rfl) (by kernel_rfl) (by kernel_rfl) (fun _ _ _ h => h) ⟨Or.inl ⟨by rfl, fun w => by go_simp; exact (wrap_i64 _).trans wa⟩, fun _ => rfl⟩ ?_
          try simp only [List.setIfInBounds_toArray, List.set_cons_zero, List.set_cons_succ]
          refine wpAnyIn_take (i := 5) (v := .int .i64 (b : Int)) rfl rfl (by kernel_rfl) (by kernel_rfl) (by kernel_rfl) (fun _ _ _ h => h) ⟨Or.inl ⟨by rfl, fun w => by go_simp⟩, fun _ => rfl⟩ ?_
          try simp only [List.setIfInBounds_toArray, List.set_cons_zero, List.set_cons_succ]
          refine wpAnyIn_ready (rs := [0, 4]) (by kernel_rfl) (by simp) ?_
          refine AllReadyIn.cons rfl (fun K hK => ?_) (AllReadyIn.cons rfl (fun K hK => ?_) AllReadyIn.nil)
          · skip
            go_simp
            refine hK _ _ ?_
            clear hK K
            try simp only [List.setIfInBounds_toArray, List.set_cons_zero, List.set_cons_succ]
            refine wpAnyIn_take (i := 3) (v := .string (str (s.take a))) rfl rfl (by kernel_rfl) (by kernel_rfl) (by kernel_rfl) (fun _ _ _ h => h) ⟨Or.inl ⟨by rfl, fun w => by go_simp⟩, fun _ => rfl⟩ ?_
            try simp only [List.setIfInBounds_toArray, List.set_cons_zero, List.set_cons_succ]
            refine wpAnyIn_ready (rs := [4, 7]) (by kernel_rfl) (by simp) ?_
            refine AllReadyIn.cons rfl (fun K hK => ?_) (AllReadyIn.cons rfl (fun K hK => ?_) AllReadyIn.nil)
            · skip
              go_simp
              refine hK _ _ ?_
              clear hK K
              try simp only [List.setIfInBounds_toArray, List.set_cons_zero, List.set_cons_succ]
              refine wpAnyIn_take (i := 6) (v := .string (str (s.drop b))) rfl rfl (by kernel_rfl) (by kernel_rfl) (by kernel_rfl) (fun _ _ _ h => h) ⟨Or.inl ⟨by rfl, fun w => by go_simp⟩, fun _ => rfl⟩ ?_
              try simp only [List.setIfInBounds_toArray, List.set_cons_zero, List.set_cons_succ]
              refine wpAnyIn_ready (rs := [7]) (by kernel_rfl) (by simp) ?_
              refine AllReadyIn.cons rfl (fun K hK => ?_) AllReadyIn.nil
              go_simp
              refine hK _ _ ?_
              clear hK K
              try simp only [List.setIfInBounds_toArray, List.set_cons_zero, List.set_cons_succ]
              refine wpAnyIn_ready (rs := [8]) (by kernel_rfl) (by simp) ?_
              refine AllReadyIn.cons rfl (fun K hK => ?_) AllReadyIn.nil
              go_simp
              refine hK _ _ ?_
              clear hK K
              try simp only [List.setIfInBounds_toArray, List.set_cons_zero, List.set_cons_succ]
              refine wpAnyIn_ready (rs := [9]) (by kernel_rfl) (by simp) ?_
              refine AllReadyIn.cons rfl (fun K hK => ?_) AllReadyIn.nil
              go_simp
              refine hK _ _ ?_
              clear hK K
              try simp only [List.setIfInBounds_toArray, List.set_cons_zero, List.set_cons_succ]
              refine wpAnyIn_done (by kernel_rfl) ?_ _
              gi_wp2
              refine ⟨((KeepsOthers.setCell W _ _).trans (KeepsOthers.setCell _ _ _)).trans ((KeepsOthers.setCell _ _ _).trans (KeepsOthers.drew _)), splitOut_ret HC.out HA.out.1 HX.out H1.out HBB.out HD.out HM.out, (set3_below HA.out.2 _ _ _).drew⟩
            · skip
              go_simp
              refine hK _ _ ?_
              clear hK K
              try simp only [List.setIfInBounds_toArray, List.set_cons_zero, List.set_cons_succ]
              refine wpAnyIn_ready (rs := [4]) (by kernel_rfl) (by simp) ?_
              refine AllReadyIn.cons rfl (fun K hK => ?_) AllReadyIn.nil
              go_simp
              refine hK _ _ ?_
              clear hK K
              try simp only [List.setIfInBounds_toArray, List.set_cons_zero, List.set_cons_succ]
              refine wpAnyIn_take (i := 6) (v := .string (str (s.drop b))) rfl rfl (by kernel_rfl) (by kernel_rfl) (by kernel_rfl) (fun _ _ _ h => h) ⟨Or.inl ⟨by rfl, fun w => by go_simp⟩, fun _ => rfl⟩ ?_
              try simp only [List.setIfInBounds_toArray, List.set_cons_zero, List.set_cons_succ]
              refine wpAnyIn_ready (rs := [8]) (by kernel_rfl) (by simp) ?_
              refine AllReadyIn.cons rfl (fun K hK => ?_) AllReadyIn.nil
              go_simp
              refine hK _ _ ?_
              clear hK K
              try simp only [List.setIfInBounds_toArray, List.set_cons_zero, List.set_cons_succ]
              refine wpAnyIn_ready (rs := [9]) (by kernel_rfl) (by simp) ?_
              refine AllReadyIn.cons rfl (fun K hK => ?_) AllReadyIn.nil
              go_simp
              refine hK _ _ ?_
              clear hK K
              try simp only [List.setIfInBounds_toArray, List.set_cons_zero, List.set_cons_succ]
              refine wpAnyIn_done (by kernel_rfl) ?_ _
              gi_wp2
              refine ⟨((KeepsOthers.setCell W _ _).trans (KeepsOthers.setCell _ _ _)).trans ((KeepsOthers.setCell _ _ _).trans (KeepsOthers.drew _)), splitOut_ret HC.out HA.out.1 HX.out H1.out HBB.out HD.out HM.out, (set3_below HA.out.2 _ _ _).drew⟩
          · skip
            go_simp
            refine hK _ _ ?_
            clear hK K
            try simp only [List.setIfInBounds_toArray, List.set_cons_zero, List.set_cons_succ]
            refine wpAnyIn_take (i := 6) (v := .string (str (s.drop b))) rfl rfl (by kernel_rfl) (by kernel_rfl) (by kernel_rfl) (fun _ _ _ h => h) ⟨Or.inl ⟨by rfl, fun w => by go_simp⟩, fun _ => rfl⟩ ?_
            try simp only [List.setIfInBounds_toArray, List.set_cons_zero, List.set_cons_succ]
            refine wpAnyIn_ready (rs := [0]) (by kernel_rfl) (by simp) ?_
            refine AllReadyIn.cons rfl (fun K hK => ?_) AllReadyIn.nil
            go_simp
            refine hK _ _ ?_
            clear hK K
            try simp only [List.setIfInBounds_toArray, List.set_cons_zero, List.set_cons_succ]
            refine wpAnyIn_take (i := 3) (v := .string (str (s.take a))) rfl rfl (by kernel_rfl) (by kernel_rfl) (by kernel_rfl) (fun _ _ _ h => h) ⟨Or.inl ⟨by rfl, fun w => by go_simp⟩, fun _ => rfl⟩ ?_
            try simp only [List.setIfInBounds_toArray, List.set_cons_zero, List.set_cons_succ]
            refine wpAnyIn_ready (rs := [7]) (by kernel_rfl) (by simp) ?_
            refine AllReadyIn.cons rfl (fun K hK => ?_) AllReadyIn.nil
            go_simp
            refine hK _ _ ?_
            clear hK K
            try simp only [List.setIfInBounds_toArray, List.set_cons_zero, List.set_cons_succ]
            refine wpAnyIn_ready (rs := [8]) (by kernel_rfl) (by simp) ?_
            refine AllReadyIn.cons rfl (fun K hK => ?_) AllReadyIn.nil
            go_simp
            refine hK _ _ ?_
            clear hK K
            try simp only [List.setIfInBounds_toArray, List.set_cons_zero, List.set_cons_succ]
            refine wpAnyIn_ready (rs := [9]) (by kernel_rfl) (by simp) ?_
            refine AllReadyIn.cons rfl (fun K hK => ?_) AllReadyIn.nil
            go_simp
            refine hK _ _ ?_
            clear hK K
            try simp only [List.setIfInBounds_toArray, List.set_cons_zero, List.set_cons_succ]
            refine wpAnyIn_done (by kernel_rfl) ?_ _
            gi_wp2
            refine ⟨((KeepsOthers.setCell W _ _).trans (KeepsOthers.setCell _ _ _)).trans ((KeepsOthers.setCell _ _ _).trans (KeepsOthers.drew _)), splitOut_ret HC.out HA.out.1 HX.out H1.out HBB.out HD.out HM.out, (set3_below HA.out.2 _ _ _).drew⟩
    case done =>
      rintro D ys W hD hys ⟨⟨⟨hC, hC3⟩, hall⟩, hB⟩ hK
      have HC := Lib.hid (And.intro hC hC3)
      have HB := Lib.hid hB
      have HP := Lib.hid (split_none HH.out.1 (by rw [← HM.out]; exact HH.out.2.1) (by rw [← HM.out]; have := HH.out.2.2; omega) (.inl (all_far hys hall)))
      have HD := Lib.hid (show w1.heap.size + 1 ≤ D by simpa using hD)
      have HK := Lib.hid hK
      clear hD hB hall hys hK
      obtain ⟨c0, f0⟩ := hC
      obtain ⟨⟨c1, f1⟩, ⟨c2, f2⟩, ⟨c3, f3⟩⟩ := hC3
      go_wp2
      have hK' := (((KeepsOthers.setCell W ⟨w.heap.size + 1, 0, none⟩ (.string ⟨#[]⟩)).trans (KeepsOthers.setCell _ ⟨w.heap.size + 1 + 1, 0, none⟩ (.string ⟨#[]⟩))).trans (KeepsOthers.setCell _ ⟨w.heap.size + 1 + 1 + 1, 0, none⟩ (.int .i64 9))).same D _ HK.out rfl
      have hC' := cells3_own (cells3_set HC.out.2 (.string ⟨#[]⟩) (.string ⟨#[]⟩) (.int .i64 9)) (grownBy_putObj' _ D (.deferred none)) (fun r e => by cases e; exact ⟨_, hK', rfl⟩)
      refine ⟨by simp, .inl ⟨_, _, rfl, run_takeDeferred hK', ?_⟩⟩
      obtain ⟨⟨r0, -⟩, ⟨r1, -⟩, ⟨r2, -⟩⟩ := hC'
      refine ⟨.tuple #[.string ⟨#[]⟩, .string ⟨#[]⟩, .int .i64 9], by simp [results, Tryd.f80, go_sem, r0, r1, r2], by rw [HP.out.1, HP.out.2.1, HP.out.2.2]; rfl, ?_⟩
      exact (set3_below HB.out _ _ _).trans (belowK_b (w := w) (Nat.le_refl _) _ D _ _ (by have := Z0.out; have := HD.out; omega) hK' rfl rfl)
    case stop =>
      rintro D c pre W hD hpre ⟨⟨hC, pre', x, he, hall, hx, hout⟩, hB⟩ hK
      obtain ⟨hcut, h0⟩ := splitOut_cut hpre he hall hx (by rw [← HM.out]; have := HH.out.2.1; omega)
      have HB := Lib.hid hB
      have HD := Lib.hid (show w1.heap.size + 1 ≤ D by simpa using hD)
      have HK := Lib.hid hK
      clear hD hB hall hpre hK he hx
      obtain ⟨c0, f0⟩ := hC
      rcases hout with ⟨rfl, h155, hC3⟩ | ⟨rfl, h155, hC3⟩
      · have HP := Lib.hid (split_at HH.out.1 (by rw [← HM.out]; exact HH.out.2.1) (by rw [← HM.out]; have := HH.out.2.2; omega) hcut h155)
        have HX := Lib.hid (show x.1.1 - 1 + 1 = x.1.1 by omega)
        have HC := Lib.hid hC3
        clear hcut h0 h155 hC3
        gi_wp2
        have hC' := cells3_own HC.out (grownBy_putObj' _ D (.deferred none)) (fun r e => by cases e; exact ⟨_, HK.out, rfl⟩)
        refine ⟨by simp, .inl ⟨_, _, rfl, run_takeDeferred HK.out, ?_⟩⟩
        obtain ⟨⟨r0, -⟩, ⟨r1, -⟩, ⟨r2, -⟩⟩ := hC'
        refine ⟨.tuple #[.string (str (s.take (x.1.1 - 1))), .string (str (s.drop x.1.1)), .int .i64 0], by simp [results, Tryd.f80, go_sem, r0, r1, r2], by rw [HP.out.1, HP.out.2.1, HP.out.2.2, HX.out], ?_⟩
        exact HB.out.trans (belowK_b (w := w) (Nat.le_refl _) _ D _ _ (by have := Z0.out; have := HD.out; omega) HK.out rfl rfl)
      · have HP := Lib.hid (split_none HH.out.1 (by rw [← HM.out]; exact HH.out.2.1) (by rw [← HM.out]; have := HH.out.2.2; omega) (.inr ⟨_, hcut, h155⟩))
        have HC := Lib.hid hC3
        obtain ⟨⟨c1, f1⟩, ⟨c2, f2⟩, ⟨c3, f3⟩⟩ := hC3
        clear hcut h0 h155
        gi_wp2
        go_wp2
        have HK := HK.out
        have hK' := (((KeepsOthers.setCell W ⟨w.heap.size + 1, 0, none⟩ (.string ⟨#[]⟩)).trans (KeepsOthers.setCell _ ⟨w.heap.size + 1 + 1, 0, none⟩ (.string ⟨#[]⟩))).trans (KeepsOthers.setCell _ ⟨w.heap.size + 1 + 1 + 1, 0, none⟩ (.int .i64 9))).same D _ HK rfl
        have hC' := cells3_own (cells3_set HC.out (.string ⟨#[]⟩) (.string ⟨#[]⟩) (.int .i64 9)) (grownBy_putObj' _ D (.deferred none)) (fun r e => by cases e; exact ⟨_, hK', rfl⟩)
        refine ⟨by simp, .inl ⟨_, _, rfl, run_takeDeferred hK', ?_⟩⟩
        obtain ⟨⟨r0, -⟩, ⟨r1, -⟩, ⟨r2, -⟩⟩ := hC'
        refine ⟨.tuple #[.string ⟨#[]⟩, .string ⟨#[]⟩, .int .i64 9], by simp [results, Tryd.f80, go_sem, r0, r1, r2], by rw [HP.out.1, HP.out.2.1, HP.out.2.2]; rfl, ?_⟩
        exact (set3_below HB.out _ _ _).trans (belowK_b (w := w) (Nat.le_refl _) _ D _ _ (by have := Z0.out; have := HD.out; omega) hK' rfl rfl)
end Go.Proofs.YthkojphgjlojgaaDoor
namespace Go.Proofs.YthkojphgjlojgaaDoor
open Go.RowKit
theorem may_any (s : List UInt8) (hs : s.length < 4611686018427387904) (w : World) : Calls Tryd.prog 56 #[.string (str s)] w fun e w' => e = .returned (.bool (mayP s)) ∧ Below w.heap.size w w' := by
  have HP := Lib.hid (fun w => split_any s hs w)
  have HZ := Lib.hid (splitErr_zero s)
  obtain ⟨z, hz⟩ : ∃ z, z = splitErr s := ⟨_, rfl⟩
  rw [← hz] at HP HZ
  clear hz hs
  go_enter Tryd.func56, Tryd.ntmps56
  go_wp2_with (first | (go_at_call 80; refine (HP.out _).mono ?_; rintro e w1 ⟨rfl, hb⟩; have HB := Lib.hid hb; clear hb))
  go_ret
  exact ⟨by rw [← HZ.out]; rfl, HB.out⟩
end Go.Proofs.YthkojphgjlojgaaDoor
namespace Go.Proofs.YthkojphgjlojgaaDoor
open Go.RowKit
set_option maxHeartbeats 4000000 in
theorem copy_any (s : List UInt8) (r q : Int) (hs : s.length < 1152921504606846976) (hr : -9223372036854775808 ≤ r ∧ r < 9223372036854775808) (hq : -9223372036854775808 ≤ q ∧ q < 9223372036854775808) (w : World) (hT : PowTab w) :
    Calls Tryd.prog 57 #[.string (str s), .agg #[.int .i64 r, .int .i64 q]] w fun e w' => e = .returned (.string (str (copyL s r q))) ∧ Below w.heap.size w w' := by
  have HT := Lib.hid hT
  have N1 := Lib.hid (fun w => number_any w r hr.1 hr.2)
  have N2 := Lib.hid (fun w => number_any w q hq.1 hq.2)
  have HL := Lib.hid (And.intro hs (And.intro (numL_length r hr.1 hr.2) (numL_length q hq.1 hq.2)))
  obtain ⟨R, hR⟩ : ∃ R, numL r = R := ⟨_, rfl⟩
  obtain ⟨Q, hQ⟩ : ∃ Q, numL q = Q := ⟨_, rfl⟩
  obtain ⟨A1, hA1⟩ : ∃ A1, s ++ [126] = A1 := ⟨_, rfl⟩
  obtain ⟨A2, hA2⟩ : ∃ A2, A1 ++ R = A2 := ⟨_, rfl⟩
  obtain ⟨A3, hA3⟩ : ∃ A3, A2 ++ [45] = A3 := ⟨_, rfl⟩
  obtain ⟨A4, hA4⟩ : ∃ A4, A3 ++ Q = A4 := ⟨_, rfl⟩
  have HE := Lib.hid (show A4 = copyL s r q by rw [← hA4, ← hA3, ← hA2, ← hA1, ← hR, ← hQ]; simp [copyL])
  have hA := Lib.hid (And.intro hA1 (And.intro hA2 (And.intro hA3 hA4)))
  rw [hR] at N1 HL
  rw [hQ] at N2 HL
  have c0 : (w.alloc (.cells #[.int .i64 r, .int .i64 q] 32 (0, 0))).cell? ⟨w.heap.size, 0, none⟩ = some (.int .i64 r) := by rw [cell_of_row _ _ 0 _ _ _ (heap_last w _)]; rfl
  have c1 : (w.alloc (.cells #[.int .i64 r, .int .i64 q] 32 (0, 0))).cell? ⟨w.heap.size, 1, none⟩ = some (.int .i64 q) := by rw [cell_of_row _ _ 1 _ _ _ (heap_last w _)]; rfl
  have B0 := Lib.hid ((Below.refl w.heap.size w).alloc (Nat.le_refl _) (.cells #[.int .i64 r, .int .i64 q] 32 (0, 0)))
  clear hT hs hr hq hR hQ hA1 hA2 hA3 hA4
  go_enter Tryd.func57, Tryd.ntmps57
  go_wp2
  refine wp_region_held_drew (S := fun w' => Below (w.alloc (.cells #[.int .i64 r, .int .i64 q] 32 (0, 0))).heap.size (w.alloc (.cells #[.int .i64 r, .int .i64 q] 32 (0, 0))) w') (by kernel_rfl) (below_draws (Below.refl _ _) 1) (fun hHeld => ?_)
  generalize (w.alloc (.cells #[.int .i64 r, .int .i64 q] 32 (0, 0))).drew = wd at hHeld ⊢
  refine take_at (i := 0) 5 rfl rfl (by kernel_rfl) (by kernel_rfl) (by kernel_rfl) (fun _ _ _ h => h) (sure_yes (by rfl) (fun w => by go_simp; try with_reducible rfl)) hHeld ?_
  simp only [List.setIfInBounds_toArray, List.set_cons_zero, List.set_cons_succ]
  refine take_at (i := 1) 6 rfl rfl (by kernel_rfl) (by kernel_rfl) (by kernel_rfl) (fun _ _ _ h => h) (sure_yes (by rfl) (add_as (l := s) (m := [126]) rfl rfl rfl (by have h1 := HL.out.1; have h2 := HL.out.2.1; have h3 := HL.out.2.2; have e1 := congrArg List.length hA.out.1; have e2 := congrArg List.length hA.out.2.1; have e3 := congrArg List.length hA.out.2.2.1; simp at e1 e2 e3 ⊢; omega) hA.out.1)) hHeld ?_
  simp only [List.setIfInBounds_toArray, List.set_cons_zero, List.set_cons_succ]
  refine take_at (i := 2) 7 rfl rfl (by kernel_rfl) (by kernel_rfl) (by kernel_rfl) (fun _ _ _ h => h) (sure_yes (by rfl) (fun w => by go_simp; try with_reducible rfl)) hHeld ?_
  simp only [List.setIfInBounds_toArray, List.set_cons_zero, List.set_cons_succ]
  refine take_at (i := 7) 12 rfl rfl (by kernel_rfl) (by kernel_rfl) (by kernel_rfl) (fun _ _ _ h => h) (sure_yes (by rfl) (fun w => by go_simp; try with_reducible rfl)) hHeld ?_
  simp only [List.setIfInBounds_toArray, List.set_cons_zero, List.set_cons_succ]
  refine take_at (i := 3) 8 rfl rfl (by kernel_rfl) (by kernel_rfl) (by kernel_rfl) (fun _ _ _ h => h) (cell_yields (by rfl) 3 (.tmp 7) rfl w.heap.size 0 rfl .i64 r Tryd.underlying3 (fun w' h => (cell_same (h.block w.heap.size (by simp)) 0).trans c0)) hHeld ?_
  simp only [List.setIfInBounds_toArray, List.set_cons_zero, List.set_cons_succ]
  refine take_at (i := 8) 13 rfl rfl (by kernel_rfl) (by kernel_rfl) (by kernel_rfl) (fun _ _ _ h => h) (cell_yields (by rfl) 2 (.tmp 12) rfl w.heap.size 1 rfl .i64 q Tryd.underlying2 (fun w' h => (cell_same (h.block w.heap.size (by simp)) 1).trans c1)) hHeld ?_
  simp only [List.setIfInBounds_toArray, List.set_cons_zero, List.set_cons_succ]
  refine wpAnyH_ready (rs := [4]) (by kernel_rfl) (by simp) ?_
  refine AllReadyH.cons rfl (fun K hK => ?_) AllReadyH.nil
  go_simp
  go_at_call 48
  refine (N1.out _ (powTab_below HT.out (below_next B0.out hHeld))).mono ?_
  rintro e w2 ⟨rfl, hb⟩
  dsimp only
  refine hK.out _ _ (below_next hHeld hb) (fun hHeld => ?_)
  clear hK K hb
  refine take_at (i := 5) 10 rfl rfl (by kernel_rfl) (by kernel_rfl) (by kernel_rfl) (fun _ _ _ h => h) (sure_yes (by rfl) (add_as (l := A1) (m := R) rfl rfl rfl (by have h1 := HL.out.1; have h2 := HL.out.2.1; have h3 := HL.out.2.2; have e1 := congrArg List.length hA.out.1; have e2 := congrArg List.length hA.out.2.1; have e3 := congrArg List.length hA.out.2.2.1; simp at e1 e2 e3 ⊢; omega) hA.out.2.1)) hHeld ?_
  simp only [List.setIfInBounds_toArray, List.set_cons_zero, List.set_cons_succ]
  refine take_at (i := 6) 11 rfl rfl (by kernel_rfl) (by kernel_rfl) (by kernel_rfl) (fun _ _ _ h => h) (sure_yes (by rfl) (add_as (l := A2) (m := [45]) rfl rfl rfl (by have h1 := HL.out.1; have h2 := HL.out.2.1; have h3 := HL.out.2.2; have e1 := congrArg List.length hA.out.1; have e2 := congrArg List.length hA.out.2.1; have e3 := congrArg List.length hA.out.2.2.1; simp at e1 e2 e3 ⊢; omega) hA.out.2.2.1)) hHeld ?_
  simp only [List.setIfInBounds_toArray, List.set_cons_zero, List.set_cons_succ]
  refine wpAnyH_ready (rs := [9]) (by kernel_rfl) (by simp) ?_
  refine AllReadyH.cons rfl (fun K hK => ?_) AllReadyH.nil
  go_simp
  go_at_call 48
  refine (N2.out _ (powTab_below HT.out (below_next B0.out hHeld))).mono ?_
  rintro e w2 ⟨rfl, hb⟩
  dsimp only
  refine hK.out _ _ (below_next hHeld hb) (fun hHeld => ?_)
  clear hK K hb
  refine take_at (i := 10) 15 rfl rfl (by kernel_rfl) (by kernel_rfl) (by kernel_rfl) (fun _ _ _ h => h) (sure_yes (by rfl) (add_as (l := A3) (m := Q) rfl rfl rfl (by have h1 := HL.out.1; have h2 := HL.out.2.1; have h3 := HL.out.2.2; have e1 := congrArg List.length hA.out.1; have e2 := congrArg List.length hA.out.2.1; have e3 := congrArg List.length hA.out.2.2.1; simp at e1 e2 e3 ⊢; omega) hA.out.2.2.2)) hHeld ?_
  simp only [List.setIfInBounds_toArray, List.set_cons_zero, List.set_cons_succ]
  refine take_at (i := 11) 4 rfl rfl (by kernel_rfl) (by kernel_rfl) (by kernel_rfl) (fun _ _ _ h => h) (sure_yes (by rfl) (fun w => by go_simp; try with_reducible rfl)) hHeld ?_
  simp only [List.setIfInBounds_toArray, List.set_cons_zero, List.set_cons_succ]
  refine wpAnyH_done (by kernel_rfl) ?_ _
  go_wp2
  go_ret
  exact ⟨by rw [← HE.out]; rfl, below_next B0.out hHeld⟩
theorem row_below {g : Nat} {A B : World} {o : Obj} (h : A.heap[g]? = some o) (hb : Below A.heap.size A B) : B.heap[g]? = some o := (hb.block g (Array.getElem?_eq_some_iff.1 h).1).trans h
theorem built_own : Tryd.prog.built 32 [(0, .int .i64 31), (1, .int .i64 1099511627776)] = some #[.int .i64 31, .int .i64 1099511627776] := by kernel_rfl
theorem copy_longest (s : List UInt8) : copyL s 31 1099511627776 = s ++ tail31 := by
  rw [copyL, show (126 : UInt8) :: (numL 31 ++ 45 :: numL 1099511627776) = tail31 by decide +kernel]
theorem has_tilde (s : List UInt8) : decide (0 ≤ Lib.indexByte (str s).data.toList 126) = s.contains 126 := by
  rw [show (str s).data.toList = s from by simp [str]]
  have hge := Lib.indexByte_ge s 126
  rw [Bool.eq_iff_iff, decide_eq_true_eq, List.contains_iff_mem]
  constructor
  · intro h
    obtain ⟨o, ho⟩ : ∃ o : Nat, Lib.indexByte s 126 = (o : Int) := ⟨(Lib.indexByte s 126).toNat, by omega⟩
    exact List.mem_of_getElem? (Lib.indexByte_some ho).1
  · intro hm
    rcases Int.lt_or_le (Lib.indexByte s 126) 0 with h | h
    · obtain ⟨k, hk, e⟩ := List.mem_iff_getElem.1 hm
      exact absurd (by rw [List.getElem?_eq_getElem hk, e]) (Lib.indexByte_none (show Lib.indexByte s 126 = -1 by omega) k)
    · exact h
set_option maxHeartbeats 4000000 in
theorem own_any (s : List UInt8) (hs : s.length < 1152921504606846976) (w : World) (hT : PowTab w) : Calls Tryd.prog 29 #[.string (str s)] w fun e w' => e = .returned (.bool (ownP s)) ∧ Below w.heap.size w w' := by
  have HT := Lib.hid hT
  obtain ⟨n, hn⟩ : ∃ n, n = s.length := ⟨_, rfl⟩
  have HN := Lib.hid hn
  have hsz : (str s).size = n := by rw [str_size, hn]
  have M1 := Lib.hid (fun w => may_any s (Nat.lt_trans hs (by decide)) w)
  have HC := Lib.hid (fun w hT => copy_any s 31 1099511627776 hs (by decide) (by decide) w hT)
  have M2 := Lib.hid (fun w => may_any (s ++ tail31) (by rw [List.length_append, show tail31.length = 17 from rfl]; omega) w)
  have HP := Lib.hid (show ownP s = (!s.contains 126 && (mayP s && (decide (n ≤ 200) && mayP (s ++ tail31)))) by rw [ownP, hn])
  have HL := Lib.hid (copy_longest s)
  have HK := Lib.hid (show ∀ w, Calls Tryd.prog 55 #[.string (str s), .string ⟨#[126]⟩] w fun e w' => e = .returned (.bool (s.contains 126)) ∧ w = w' from fun w => by
    refine (Tryd.strings_Contains_one (str s) 126 w).mono fun e w' h => ?_
    rw [has_tilde] at h; exact ⟨h.1, h.2.symm⟩)
  generalize s.contains 126 = k at HP HK
  generalize mayP s = m at HP M1
  generalize s ++ tail31 = u at HP M2 HL
  generalize mayP u = z at HP M2
  have B0 := Lib.hid ((Below.refl w.heap.size w).alloc (Nat.le_refl _) (.cells #[.int .i64 31, .int .i64 1099511627776] 32 (0, 0)))
  have HW := Lib.hid (heap_last w (.cells #[.int .i64 31, .int .i64 1099511627776] 32 (0, 0)))
  rw [HL.out] at HC
  have q : decide ((n : Int) ≤ 200) = decide (n ≤ 200) := by rw [Bool.eq_iff_iff, decide_eq_true_eq, decide_eq_true_eq]; omega
  clear hn hs hT HL HN
  generalize decide (n ≤ 200) = b at HP q
  cases b with
  | false =>
    replace HP := Lib.hid (show ownP s = false by rw [HP.out]; cases k <;> cases m <;> rfl)
    go_enter Tryd.func29, Tryd.ntmps29
    go_wp2_with (first
      | (refine build_on (by rfl) 32 #[(0, .const (.int .i64 31)), (1, .const (.int .i64 1099511627776))] rfl _ _ built_own (by simp [Act.eval]) ?_))
    go_ret
    exact ⟨by rw [HP.out]; try rfl, B0.out⟩
  | true =>
    cases k with
    | true =>
      replace HP := Lib.hid (show ownP s = false by rw [HP.out]; rfl)
      go_enter Tryd.func29, Tryd.ntmps29
      go_wp2_with (first
        | (refine build_on (by rfl) 32 #[(0, .const (.int .i64 31)), (1, .const (.int .i64 1099511627776))] rfl _ _ built_own (by simp [Act.eval]) ?_)
        | (go_at_call 55; refine (HK.out _).mono ?_; rintro e w' ⟨rfl, rfl⟩))
      go_ret
      exact ⟨by rw [HP.out]; try rfl, B0.out⟩
    | false =>
      cases m with
      | false =>
        replace HP := Lib.hid (show ownP s = false by rw [HP.out]; rfl)
        go_enter Tryd.func29, Tryd.ntmps29
        go_wp2_with (first
          | (refine build_on (by rfl) 32 #[(0, .const (.int .i64 31)), (1, .const (.int .i64 1099511627776))] rfl _ _ built_own (by simp [Act.eval]) ?_)
          | (go_at_call 55; refine (HK.out _).mono ?_; rintro e w' ⟨rfl, rfl⟩)
          | (go_at_call 56; with_reducible refine (M1.out (w.alloc (.cells #[.int .i64 31, .int .i64 1099511627776] 32 (0, 0)))).mono ?_; rintro e w1 ⟨rfl, hb⟩; have H1 := Lib.hid hb; have G1 := Lib.hid (row_below HW.out hb); clear hb))
        go_ret
        exact ⟨by rw [HP.out]; try rfl, below_next B0.out H1.out⟩
      | true =>
        replace HP := Lib.hid (show ownP s = z by rw [HP.out]; rfl)
        go_enter Tryd.func29, Tryd.ntmps29
        go_wp2_with (first
          | (refine build_on (by rfl) 32 #[(0, .const (.int .i64 31)), (1, .const (.int .i64 1099511627776))] rfl _ _ built_own (by simp [Act.eval]) ?_)
          | (go_at_call 55; refine (HK.out _).mono ?_; rintro e w' ⟨rfl, rfl⟩)
          | (go_at_call 56; with_reducible refine (M1.out (w.alloc (.cells #[.int .i64 31, .int .i64 1099511627776] 32 (0, 0)))).mono ?_; rintro e w1 ⟨rfl, hb⟩; have H1 := Lib.hid hb; have G1 := Lib.hid (row_below HW.out hb); clear hb)
          | (refine load_row_on (by rfl) 32 (.tmp 3) rfl w.heap.size rfl 32 _ (0, 0) _ G1.out Tryd.underlying32 rfl (by kernel_rfl) ?_)
          | (go_at_call 57; refine (HC.out w1 (powTab_below HT.out (below_next B0.out H1.out))).mono ?_; rintro e w2 ⟨rfl, hb⟩; have H2 := Lib.hid (below_next H1.out hb); clear hb)
          | (go_at_call 56; with_reducible refine (M2.out w2).mono ?_; rintro e w3 ⟨rfl, hb⟩; have H3 := Lib.hid (below_next H2.out hb); clear hb))
        go_ret
        exact ⟨by rw [HP.out]; try rfl, below_next B0.out H3.out⟩
end Go.Proofs.YthkojphgjlojgaaDoor
namespace Go.Proofs.YthkojphgjlojgaaDoor
open Go.RowKit
theorem ownSays : OwnSays := fun w s hs hT => own_any s hs w hT
end Go.Proofs.YthkojphgjlojgaaDoor
