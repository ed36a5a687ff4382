/-
Texts that all claims of this seat share, part 5: Ref10Parse, Law10Awake, Open09, Open10, Bulk, Witness.
-/
import Derived.Test.YtoephjmjlhgjeaaDoorProg
import Derived.WalkKit
import Derived.ProofKit
import Derived.OpenShut
import Derived.Deep.SlicePairs
import Derived.SizedLaws
import Derived.Test.YtoephjmjlhgjeaaDoorRows
import Derived.Deep.DeepHandedRow
import Derived.Deep.DeepWitnessRowRef
import Derived.Lay
import Derived.LaidOnce
import Derived.Test.YtoephjmjlhgjeaaDoorPk4
namespace Go.Proofs.YtoephjmjlhgjeaaDoor
open Go.RowKit
/-- Whether all pieces are dots. -/
def allP (ps : List (List UInt8)) : Bool := ps.all (fun p => parErr p == 0)
theorem allP_snoc (ps : List (List UInt8)) (p : List UInt8) : allP (ps ++ [p]) = (allP ps && parErr p == 0) := by simp [allP, List.all_append]
theorem allP_bad {s : List UInt8} (h : s ≠ [45]) {ps : List (List UInt8)} (hp : ∃ r, piecesB 44 s = ps ++ r) (hb : allP ps = false) : parVErr s = 2 ∧ parV s = [] := by
  obtain ⟨r, hr⟩ := hp
  refine par_bad h ?_
  rw [goodP]
  have : (piecesB 44 s).all (fun p => parErr p == 0) = false := by
    rw [hr, List.all_append, show ps.all (fun p => parErr p == 0) = false from hb]; rfl
  rw [this]; rfl
/-- What the last comparison tells. -/
theorem last_cmp {s : List UInt8} (h : s ≠ [45]) (ha : allP (piecesB 44 s) = true) : (textV ((piecesB 44 s).map dotOf) = s ∧ parVErr s = 0 ∧ parV s = (piecesB 44 s).map dotOf) ∨ (textV ((piecesB 44 s).map dotOf) ≠ s ∧ parVErr s = 2 ∧ parV s = []) := by
  have hps : vecPs s = piecesB 44 s := by rw [vecPs, if_neg h]
  have hd : dotsOf s = (piecesB 44 s).map dotOf := by rw [dotsOf, hps]
  by_cases e : textV ((piecesB 44 s).map dotOf) = s
  · have hi : isVecT s = true := by
      rw [isVecT, hps, hd, show (piecesB 44 s).all (fun p => parErr p == 0) = true from ha, Bool.true_and, beq_iff_eq]; exact e
    exact .inl ⟨e, by rw [parVErr, hi]; rfl, by rw [parV, hi, hd]; rfl⟩
  · have hi : isVecT s = false := by
      rw [isVecT, hd, Bool.and_eq_false_iff]; right; rw [beq_eq_false_iff_ne]; exact e
    exact .inr ⟨e, by rw [parVErr, hi]; rfl, by rw [parV, hi]; rfl⟩
/-- The pieces that are whole ahead of a place are the first ones. -/
theorem cut_take (c : UInt8) (s : List UInt8) (k : Nat) : ∃ r, piecesB c s = (cutS c (s.take k)).1 ++ r := by
  have h : ∀ (r : List UInt8) (st : List (List UInt8) × List UInt8), ∃ z, (r.foldl (cutStep c) st).1 = st.1 ++ z := by
    intro r
    induction r with
    | nil => intro st; exact ⟨[], by simp⟩
    | cons b t ih =>
      intro st
      obtain ⟨z, hz⟩ := ih (cutStep c st b)
      rw [List.foldl_cons, hz]
      unfold cutStep
      split
      · exact ⟨[st.2] ++ z, by simp⟩
      · exact ⟨z, rfl⟩
  obtain ⟨z, hz⟩ := h (s.drop k) (cutS c (s.take k))
  refine ⟨z ++ [(cutS c s).2], ?_⟩
  have e : cutS c s = (s.drop k).foldl (cutStep c) (cutS c (s.take k)) := by
    conv => lhs; rw [← List.take_append_drop k s]
    rw [cutS, List.foldl_append]; rfl
  rw [piecesB, ← List.append_assoc, ← hz, ← e]
/-- Where a reading of a text stands: k bytes are read, the last piece began at f, the whole ones ahead of it are L. -/
def AtCut (s : List UInt8) (m k f : Nat) (L : List (List UInt8)) : Prop :=
  allP L = true ∧ ((k ≤ m ∧ f ≤ k ∧ f + (cutS 44 (s.take k)).2.length = k ∧ L = (cutS 44 (s.take k)).1) ∨ (k = m + 1 ∧ L = piecesB 44 s))
theorem atCut_start (s : List UInt8) (m : Nat) : AtCut s m 0 0 [] := ⟨rfl, .inl ⟨by omega, Nat.le_refl _, rfl, rfl⟩⟩
/-- The piece that ends at a place. -/
theorem cut_piece {s : List UInt8} {m k f : Nat} {L : List (List UInt8)} (h : AtCut s m k f L) (hm : m = s.length) (hk : k ≤ m) : f ≤ k ∧ (s.take k).drop f = (cutS 44 (s.take k)).2 ∧ L = (cutS 44 (s.take k)).1 := by
  obtain ⟨-, ⟨-, h0, h1, h2⟩ | ⟨h1, -⟩⟩ := h
  · have h3 := cut_end 44 (s.take k)
    rw [List.length_take, Nat.min_eq_left (by omega), show k - (cutS 44 (s.take k)).2.length = f by omega] at h3
    exact ⟨h0, h3, h2⟩
  · omega
theorem atCut_other {s : List UInt8} {m k f : Nat} {L : List (List UInt8)} {c : UInt8} (h : AtCut s m k f L) (hm : m = s.length) (hc : s[k]? = some c) (h44 : c ≠ 44) : AtCut s m (k + 1) f L := by
  obtain ⟨hlt, he⟩ := List.getElem?_eq_some_iff.1 hc
  obtain ⟨ha, ⟨h1, h0, h2, h3⟩ | ⟨h1, -⟩⟩ := h
  · refine ⟨ha, .inl ⟨by omega, by omega, ?_, ?_⟩⟩
    · rw [cutS_take 44 hlt, he, cutStep, if_neg h44, List.length_append, List.length_singleton]; omega
    · rw [cutS_take 44 hlt, he, cutStep, if_neg h44, h3]
  · omega
theorem atCut_comma {s : List UInt8} {m k f : Nat} {L : List (List UInt8)} {p : List UInt8} (h : AtCut s m k f L) (hm : m = s.length) (hc : s[k]? = some 44) (hp : p = (cutS 44 (s.take k)).2) (he : parErr p = 0) : AtCut s m (k + 1) (k + 1) (L ++ [p]) := by
  obtain ⟨hlt, hx⟩ := List.getElem?_eq_some_iff.1 hc
  obtain ⟨ha, ⟨h1, h0, h2, h3⟩ | ⟨h1, -⟩⟩ := h
  · refine ⟨by rw [allP_snoc, ha, he]; rfl, .inl ⟨by omega, Nat.le_refl _, ?_, ?_⟩⟩
    · rw [cutS_take 44 hlt, hx, cutStep, if_pos rfl]; rfl
    · rw [cutS_take 44 hlt, hx, cutStep, if_pos rfl, h3, hp]
  · omega
theorem atCut_end {s : List UInt8} {m f : Nat} {L : List (List UInt8)} {p : List UInt8} (h : AtCut s m m f L) (hm : m = s.length) (hp : p = (cutS 44 (s.take m)).2) (he : parErr p = 0) : AtCut s m (m + 1) (m + 1) (L ++ [p]) := by
  obtain ⟨ha, ⟨h1, h0, h2, h3⟩ | ⟨h1, -⟩⟩ := h
  · refine ⟨by rw [allP_snoc, ha, he]; rfl, .inr ⟨rfl, ?_⟩⟩
    rw [h3, hp, hm, List.take_length, piecesB]
  · omega
theorem atCut_bad {s : List UInt8} {m k f : Nat} {L : List (List UInt8)} {p : List UInt8} (h : AtCut s m k f L) (hm : m = s.length) (hk : k ≤ m) (h45 : s ≠ [45]) (hend : k = m ∨ s[k]? = some 44) (hp : p = (cutS 44 (s.take k)).2) (he : parErr p ≠ 0) : parVErr s = 2 ∧ parV s = [] := by
  have hb : allP (L ++ [p]) = false := by rw [allP_snoc, beq_eq_false_iff_ne.2 he, Bool.and_false]
  refine allP_bad h45 (ps := L ++ [p]) ?_ hb
  have hL := (cut_piece h hm hk).2.2
  rcases hend with rfl | hc
  · exact ⟨[], by rw [hL, hp, hm, List.take_length, piecesB, List.append_nil]⟩
  · obtain ⟨hlt, hx⟩ := List.getElem?_eq_some_iff.1 hc
    obtain ⟨r, hr⟩ := cut_take 44 s (k + 1)
    rw [cutS_take 44 hlt, hx, cutStep, if_pos rfl] at hr
    exact ⟨r, by rw [hr, hL, hp]⟩
theorem atCut_len {s : List UInt8} {m k f : Nat} {L : List (List UInt8)} (h : AtCut s m k f L) (hm : m = s.length) : L.length ≤ m + 1 := by
  obtain ⟨-, ⟨h1, -, -, h3⟩ | ⟨-, h3⟩⟩ := h
  · rw [h3]; have := pieces_count 44 (s.take k); rw [List.length_take] at this; omega
  · rw [h3]; have := pieces_length 44 s; omega
set_option maxRecDepth 100000 in
set_option maxHeartbeats 16000000 in
theorem refParse_any10 (s : List UInt8) (hs : s.length < 1048576) (w : World) : Calls Tryd.prog 22 #[.string (str s)] w fun e w' => ∃ v, e = .returned (.tuple #[v, .int .i64 (parVErr s)]) ∧ HasDots w' v (parV s) ∧ Below w.heap.size w w' := by
  obtain ⟨i0, hi, hz⟩ := infoDot
  obtain ⟨m, hm⟩ : ∃ m, m = s.length := ⟨_, rfl⟩
  have HM := Lib.hid hm
  have hsz : (str s).size = m := by rw [str_size, hm]
  rw [← hm] at hs
  have s2 : (str s).toList = s := str_toList s
  have s3 : (ByteArray.mk #[45]).toList = [45] := ByteArray.toList_mk _
  by_cases h45 : s = [45]
  · have HP := Lib.hid (show parVErr s = 0 ∧ parV s = [] by rw [h45]; exact par_hyphen)
    have q1 : (s == [45]) = true := by rw [h45]; rfl
    have TX := Lib.hid (fun w => refText_any10 [] (by simp) (.slice none 0 0) w (dots_nil w))
    rw [show textV [] = s by rw [h45]; decide +kernel] at TX
    clear h45 hs hm
    go_enter Tryd.func22, Tryd.ntmps22
    go_wp2
    go_loopw [4, 5, 6] (fun o f c wr => o = .slice none 0 0 ∧ c = .int .i64 0 ∧ wr = w) (fun _ _ _ _ => 0)
    case atStart => exact ⟨rfl, rfl, rfl⟩
    case round =>
      obtain ⟨rfl, rfl, rfl⟩ := hrel
      go_wp2_with (first | (go_at_call 30; refine (TX.out _).mono ?_; rintro e w2 ⟨rfl, hb⟩; have B2 := Lib.hid hb; clear hb))
      go_ret2
      exact ⟨_, by rw [HP.out.1]; rfl, by rw [HP.out.2]; exact dots_nil _, B2.out⟩
  · have q1 : (s == [45]) = false := by rw [beq_eq_false_iff_ne]; exact h45
    have HH := Lib.hid h45
    have HMS := Lib.hid hs
    clear h45 hm
    go_enter Tryd.func22, Tryd.ntmps22
    go_wp2
    go_loopw [4, 5, 6] (fun o x c wr => ∃ (f k : Nat) (L : List (List UInt8)), k ≤ m + 1 ∧ c = .int .i64 (k : Int) ∧ x = .int .i64 (f : Int) ∧ AtCut s m k f L ∧ wr.ownsRow w.heap.size 25 2 o (L.map dotOf).length (dotsC (L.map dotOf)) ∧ Below w.heap.size w wr) (fun _ _ c _ => m + 1 - (intOf c).toNat)
    case atStart => exact ⟨0, 0, [], by omega, rfl, rfl, atCut_start s m, dots_own_nil _ _ _, Below.refl _ _⟩
    case round =>
      obtain ⟨f, k, L, hk, rfl, rfl, hcut, ho, hb⟩ := hrel
      have HC := Lib.hid hcut
      have HO := Lib.hid ho
      have HB := Lib.hid hb
      by_cases hkn : k ≤ m
      · have q0 : ¬ (m : Int) < (k : Int) := by omega
        have KK := Lib.hid (show k + 1 ≤ m + 1 ∧ m + 1 - (k + 1) < m + 1 - k by omega)
        obtain ⟨hfk, hpe, hLe⟩ := cut_piece hcut HM.out hkn
        have sl : ∀ w, (Instr.slice 9 (.string (str s)) (some (.int .i64 (f : Int))) (some (.int .i64 (k : Int))) none).run Tryd.prog w = .ok (.string (str ((s.take k).drop f))) w := fun w => slice_mid w 9 s f k hfk (by rw [← HM.out]; exact hkn) Tryd.underlying9
        rw [hpe] at sl
        obtain ⟨p, hpp⟩ : ∃ p, p = (cutS 44 (s.take k)).2 := ⟨_, rfl⟩
        rw [← hpp] at sl
        have HPL := Lib.hid (show p.length ≤ m by rw [hpp]; have h := cut_length 44 (s.take k); rw [List.length_take] at h; omega)
        clear hpe hLe hcut ho hb hfk
        by_cases hend : k = m
        · subst hend
          have PX := Lib.hid (fun w => refParse_any9 p (by have h1 := HPL.out; have h2 := HMS.out; omega) w)
          obtain ⟨r, hr'⟩ : ∃ r, r = parR p := ⟨_, rfl⟩
          obtain ⟨q, hq'⟩ : ∃ q, q = parQ p := ⟨_, rfl⟩
          obtain ⟨E, hE⟩ : ∃ E, E = parErr p := ⟨_, rfl⟩
          rw [← hr', ← hq', ← hE] at PX
          have HN := Lib.hid (show (L ++ [p]).map dotOf = L.map dotOf ++ [(r, q)] by rw [List.map_append, hr', hq']; rfl)
          have HLL := Lib.hid (show (L.map dotOf).length + 1 ≤ 2000000 by have h := atCut_len HC.out HM.out; have h2 := HMS.out; rw [List.length_map]; omega)
          clear hr' hq'
          by_cases hE0 : E = 0
          · have HX := Lib.hid (atCut_end HC.out HM.out hpp (by rw [← hE]; exact hE0))
            subst hE0
            clear hE hpp
            go_wp2_with (first
              | (go_at_call 39; refine (PX.out _).mono ?_; rintro e w2 ⟨rfl, hb⟩; have B2 := Lib.hid (below_next HB.out hb); have O2 := Lib.hid (own_below HO.out hb); clear hb)
              | (refine load_row_on (by rfl) 25 (.tmp 7) rfl w2.heap.size rfl 25 _ (0, 0) _ (heap_last w2 _) Tryd.underlying25 rfl (by kernel_rfl) ?_)
              | (at_builtin; refine append_dot rfl (.tmp 39) (.tmp 41) 23 rfl w.heap.size 25 i0 Tryd.underlying23 hi hz _ (L.map dotOf) (r, q) rfl ((O2.out.alloc _).alloc _) ⟨w2.heap.size + 1, 0, none⟩ 1 rfl ⟨(cell_of_row _ _ 0 _ _ _ (alloc2_1 w2 _ _)).trans rfl, by rw [Addr.add_lit]; exact (cell_of_row _ _ (0 + 1) _ _ _ (alloc2_1 w2 _ _)).trans rfl⟩ HLL.out (by have := B2.out.size; simp <;> omega) ?_; intro v1 w3 ho hg; rw [← HN.out] at ho; have HO1 := Lib.hid ho; have HB1 := Lib.hid (below_grown ((B2.out.alloc B2.out.size _).alloc (by have := B2.out.size; simp <;> omega) _) hg (by have := B2.out.size; simp <;> omega) (fun j hj => by have := (O2.out.lt j hj).1; omega)); clear ho hg))
            refine ⟨⟨k + 1, k + 1, L ++ [p], KK.out.1, by simp, by simp, HX.out, HO1.out, HB1.out⟩, ?_⟩
            have := KK.out.2; simp [intOf] <;> omega
          · have HX := Lib.hid (atCut_bad HC.out HM.out hkn HH.out (.inl rfl) hpp (by rw [← hE]; exact hE0))
            have t1 : (E != 0) = true := bne_iff_ne.2 hE0
            clear hE hpp hE0
            go_wp2_with (first
              | (go_at_call 39; refine (PX.out _).mono ?_; rintro e w2 ⟨rfl, hb⟩; have B2 := Lib.hid (below_next HB.out hb); have O2 := Lib.hid (own_below HO.out hb); clear hb))
            go_ret2
            exact ⟨_, by rw [HX.out.1]; rfl, by rw [HX.out.2]; exact dots_nil _, B2.out.alloc B2.out.size _⟩
        · obtain ⟨c, hc⟩ : ∃ c, s[k]? = some c := ⟨s[k]'(by have := HM.out; omega), List.getElem?_eq_getElem _⟩
          have i1 := fun w => index_str (P := Tryd.prog) w s .i64 k c hc Tryd.underlying9
          obtain ⟨x, hx⟩ : ∃ x, c.toNat = x := ⟨_, rfl⟩
          rw [hx] at i1
          have t2 : ((k : Int) == (m : Int)) = false := beq_eq_false_iff_ne.2 (by omega)
          have q2 : (k : Int) < (m : Int) := by omega
          by_cases h44 : x = 44
          · subst h44
            have hc44 : s[k]? = some 44 := by rw [hc]; exact congrArg some (UInt8.toNat_inj.1 hx)
            have HC44 := Lib.hid hc44
            clear hc hx hend
            have PX := Lib.hid (fun w => refParse_any9 p (by have h1 := HPL.out; have h2 := HMS.out; omega) w)
            obtain ⟨r, hr'⟩ : ∃ r, r = parR p := ⟨_, rfl⟩
            obtain ⟨q, hq'⟩ : ∃ q, q = parQ p := ⟨_, rfl⟩
            obtain ⟨E, hE⟩ : ∃ E, E = parErr p := ⟨_, rfl⟩
            rw [← hr', ← hq', ← hE] at PX
            have HN := Lib.hid (show (L ++ [p]).map dotOf = L.map dotOf ++ [(r, q)] by rw [List.map_append, hr', hq']; rfl)
            have HLL := Lib.hid (show (L.map dotOf).length + 1 ≤ 2000000 by have h := atCut_len HC.out HM.out; have h2 := HMS.out; rw [List.length_map]; omega)
            clear hr' hq' hc44
            by_cases hE0 : E = 0
            · have HX := Lib.hid (atCut_comma HC.out HM.out HC44.out hpp (by rw [← hE]; exact hE0))
              subst hE0
              clear hE hpp
              go_wp2_with (first
                | (go_at_call 39; refine (PX.out _).mono ?_; rintro e w2 ⟨rfl, hb⟩; have B2 := Lib.hid (below_next HB.out hb); have O2 := Lib.hid (own_below HO.out hb); clear hb)
                | (refine load_row_on (by rfl) 25 (.tmp 7) rfl w2.heap.size rfl 25 _ (0, 0) _ (heap_last w2 _) Tryd.underlying25 rfl (by kernel_rfl) ?_)
                | (at_builtin; refine append_dot rfl (.tmp 39) (.tmp 41) 23 rfl w.heap.size 25 i0 Tryd.underlying23 hi hz _ (L.map dotOf) (r, q) rfl ((O2.out.alloc _).alloc _) ⟨w2.heap.size + 1, 0, none⟩ 1 rfl ⟨(cell_of_row _ _ 0 _ _ _ (alloc2_1 w2 _ _)).trans rfl, by rw [Addr.add_lit]; exact (cell_of_row _ _ (0 + 1) _ _ _ (alloc2_1 w2 _ _)).trans rfl⟩ HLL.out (by have := B2.out.size; simp <;> omega) ?_; intro v1 w3 ho hg; rw [← HN.out] at ho; have HO1 := Lib.hid ho; have HB1 := Lib.hid (below_grown ((B2.out.alloc B2.out.size _).alloc (by have := B2.out.size; simp <;> omega) _) hg (by have := B2.out.size; simp <;> omega) (fun j hj => by have := (O2.out.lt j hj).1; omega)); clear ho hg))
              refine ⟨⟨k + 1, k + 1, L ++ [p], KK.out.1, by simp, by simp, HX.out, HO1.out, HB1.out⟩, ?_⟩
              have := KK.out.2; simp [intOf] <;> omega
            · have HX := Lib.hid (atCut_bad HC.out HM.out hkn HH.out (.inr HC44.out) hpp (by rw [← hE]; exact hE0))
              have t1 : (E != 0) = true := bne_iff_ne.2 hE0
              clear hE hpp hE0
              go_wp2_with (first
                | (go_at_call 39; refine (PX.out _).mono ?_; rintro e w2 ⟨rfl, hb⟩; have B2 := Lib.hid (below_next HB.out hb); have O2 := Lib.hid (own_below HO.out hb); clear hb))
              go_ret2
              exact ⟨_, by rw [HX.out.1]; rfl, by rw [HX.out.2]; exact dots_nil _, B2.out.alloc B2.out.size _⟩
          · have HX := Lib.hid (atCut_other HC.out HM.out hc (fun e => h44 (by rw [← hx, e]; rfl)))
            have t3 : ((x : Int) == 44) = false := beq_eq_false_iff_ne.2 (by omega)
            clear hc hx hend hpp h44
            go_wp2
            refine ⟨⟨f, k + 1, L, KK.out.1, by simp, by simp, HX.out, HO.out, HB.out⟩, ?_⟩
            have := KK.out.2; simp [intOf] <;> omega
      · obtain rfl : k = m + 1 := by omega
        have hL : L = piecesB 44 s := by
          obtain ⟨-, ⟨h1, -⟩ | ⟨-, h3⟩⟩ := hcut
          · omega
          · exact h3
        have hall : allP L = true := hcut.1
        have q0 : (m : Int) < ((m + 1 : Nat) : Int) := by omega
        have hlen := atCut_len hcut HM.out
        obtain ⟨ao, cap, rfl⟩ := own_slice ho
        have HD := Lib.hid (dots_of_own ho)
        have TX := Lib.hid (fun w hv => refText_any10 (L.map dotOf) (by have h2 := HMS.out; rw [List.length_map]; omega) (.slice ao (L.map dotOf).length cap) w hv)
        obtain ⟨K, hK⟩ : ∃ K, K = (L.map dotOf).length := ⟨_, rfl⟩
        rw [← hK] at TX HD ⊢
        have HLC := Lib.hid (last_cmp HH.out (by rw [← hL]; exact hall))
        rw [← hL] at HLC
        obtain ⟨T, hT⟩ : ∃ T, T = textV (L.map dotOf) := ⟨_, rfl⟩
        rw [← hT] at TX HLC
        have s4 : (str T).toList = T := str_toList T
        clear hL hall hcut ho hb hK hT hkn hlen
        rcases HLC.out with ⟨h1, h2, h3⟩ | ⟨h1, h2, h3⟩
        · have HE := Lib.hid (And.intro h2 h3)
          have t1 : (T == s) = true := beq_iff_eq.2 h1
          clear h1 h2 h3 HLC
          go_wp2_with (first | (go_at_call 30; refine (TX.out _ HD.out).mono ?_; rintro e w2 ⟨rfl, hb⟩; have B2 := Lib.hid hb; clear hb))
          go_ret2
          exact ⟨_, by rw [HE.out.1]; rfl, by rw [HE.out.2]; exact dots_below HD.out B2.out, below_next HB.out B2.out⟩
        · have HE := Lib.hid (And.intro h2 h3)
          have t1 : (T == s) = false := beq_eq_false_iff_ne.2 h1
          clear h1 h2 h3 HLC
          go_wp2_with (first | (go_at_call 30; refine (TX.out _ HD.out).mono ?_; rintro e w2 ⟨rfl, hb⟩; have B2 := Lib.hid hb; clear hb))
          go_ret2
          exact ⟨_, by rw [HE.out.1]; rfl, by rw [HE.out.2]; exact dots_nil _, below_next HB.out B2.out⟩
end Go.Proofs.YtoephjmjlhgjeaaDoor
namespace Go.Proofs.YtoephjmjlhgjeaaDoor
open Go.RowKit
theorem awake10_nums : ∃ A B : List D2, (parVErr [48, 58, 51, 44, 50, 58, 49] = 0 ∧ parV [48, 58, 51, 44, 50, 58, 49] = A) ∧ (parVErr [48, 58, 49, 44, 49, 58, 53] = 0 ∧ parV [48, 58, 49, 44, 49, 58, 53] = B) ∧ textV (joinV A B) = [48, 58, 51, 44, 49, 58, 53, 44, 50, 58, 49] ∧ textV (meetV A B) = [48, 58, 49] ∧ leqV A B = false ∧ hasV A 0 2 = true ∧ A.length = 2 ∧ B.length = 2 ∧ (joinV A B).length ≤ 32 ∧ (meetV A B).length ≤ 32 :=
  ⟨[(0, 3), (2, 1)], [(0, 1), (1, 5)], by decide +kernel⟩
set_option maxRecDepth 100000 in
set_option maxHeartbeats 32000000 in
theorem awake10_any (w : World) (hT : PowTab w) : Calls Tryd.prog 9 #[] w fun e w' => e = .returned (.bool true) ∧ Below w.heap.size w w' := by
  obtain ⟨A, B, ⟨a1, a2⟩, ⟨b1, b2⟩, j1, m1, l1, h1, lA, lB, lJ, lM⟩ := awake10_nums
  have HT := Lib.hid hT
  have P1 := Lib.hid (show ∀ w, Calls Tryd.prog 21 #[.string ⟨#[48, 58, 51, 44, 50, 58, 49]⟩] w fun e w' => ∃ v, e = .returned (.tuple #[v, .int .i64 0]) ∧ HasDots w' v A ∧ Below w.heap.size w w' from fun w => by
    have h := vecParse_any [48, 58, 51, 44, 50, 58, 49] (by decide) w; rwa [a1, a2] at h)
  have P2 := Lib.hid (show ∀ w, Calls Tryd.prog 21 #[.string ⟨#[48, 58, 49, 44, 49, 58, 53]⟩] w fun e w' => ∃ v, e = .returned (.tuple #[v, .int .i64 0]) ∧ HasDots w' v B ∧ Below w.heap.size w w' from fun w => by
    have h := vecParse_any [48, 58, 49, 44, 49, 58, 53] (by decide) w; rwa [b1, b2] at h)
  have JN := Lib.hid (fun w v u hv hu => vecJoin_any A B (by omega) (by omega) v u w hv hu)
  have MT := Lib.hid (fun w v u hv hu => vecMeet_any A B (by omega) (by omega) v u w hv hu)
  have LQ := Lib.hid (fun w v u hv hu => vecLeq_any A B (by omega) (by omega) v u w hv hu)
  rw [l1] at LQ
  have HS := Lib.hid (fun w v hv => vecHas_any A (by omega) 0 2 v w hv)
  rw [h1] at HS
  have TJ := Lib.hid (show ∀ w v, HasDots w v (joinV A B) → PowTab w → Calls Tryd.prog 29 #[v] w fun e w' => e = .returned (.string ⟨#[48, 58, 51, 44, 49, 58, 53, 44, 50, 58, 49]⟩) ∧ Below w.heap.size w w' from fun w v hv hT => by
    have h := vecText_any (joinV A B) (by omega) v w hv hT; rwa [j1] at h)
  have TM := Lib.hid (show ∀ w v, HasDots w v (meetV A B) → PowTab w → Calls Tryd.prog 29 #[v] w fun e w' => e = .returned (.string ⟨#[48, 58, 49]⟩) ∧ Below w.heap.size w w' from fun w v hv hT => by
    have h := vecText_any (meetV A B) (by omega) v w hv hT; rwa [m1] at h)
  have B0 := Lib.hid (Below.refl w.heap.size w)
  clear hT a1 a2 b1 b2 j1 m1 l1 h1 lA lB lJ lM
  go_enter Tryd.func9, Tryd.ntmps9
  go_wp2_with (first
    | (go_at_call 21; with_reducible refine (P1.out w).mono ?_; rintro e w1 ⟨x1, rfl, hx, hb⟩; have DA_1 := Lib.hid hx; obtain ⟨xo1, xc1, rfl⟩ := dots_shape hx _ rfl; have B1 := Lib.hid (below_next B0.out hb); clear hb hx)
    | (go_at_call 21; with_reducible refine (P2.out w1).mono ?_; rintro e w2 ⟨x2, rfl, hx, hb⟩; have DB_2 := Lib.hid hx; obtain ⟨xo2, xc2, rfl⟩ := dots_shape hx _ rfl; have DA_2 := Lib.hid (dots_below DA_1.out hb); have B2 := Lib.hid (below_next B1.out hb); clear hb hx)
    | (go_at_call 23; with_reducible refine (JN.out w2 _ _ DA_2.out DB_2.out).mono ?_; rintro e w3 ⟨x3, rfl, hx, hb⟩; have DJ_3 := Lib.hid hx; obtain ⟨xo3, xc3, rfl⟩ := dots_shape hx _ rfl; have DA_3 := Lib.hid (dots_below DA_2.out hb); have DB_3 := Lib.hid (dots_below DB_2.out hb); have B3 := Lib.hid (below_next B2.out hb); clear hb hx)
    | (go_at_call 29; with_reducible refine (TJ.out w3 _ DJ_3.out (powTab_below HT.out B3.out)).mono ?_; rintro e w4 ⟨rfl, hb⟩; have DA_4 := Lib.hid (dots_below DA_3.out hb); have DB_4 := Lib.hid (dots_below DB_3.out hb); have B4 := Lib.hid (below_next B3.out hb); clear hb)
    | (go_at_call 25; with_reducible refine (MT.out w4 _ _ DA_4.out DB_4.out).mono ?_; rintro e w5 ⟨x5, rfl, hx, hb⟩; have DM_5 := Lib.hid hx; obtain ⟨xo5, xc5, rfl⟩ := dots_shape hx _ rfl; have DA_5 := Lib.hid (dots_below DA_4.out hb); have DB_5 := Lib.hid (dots_below DB_4.out hb); have B5 := Lib.hid (below_next B4.out hb); clear hb hx)
    | (go_at_call 29; with_reducible refine (TM.out w5 _ DM_5.out (powTab_below HT.out B5.out)).mono ?_; rintro e w6 ⟨rfl, hb⟩; have DA_6 := Lib.hid (dots_below DA_5.out hb); have DB_6 := Lib.hid (dots_below DB_5.out hb); have B6 := Lib.hid (below_next B5.out hb); clear hb)
    | (go_at_call 27; with_reducible refine (LQ.out w6 _ _ DA_6.out DB_6.out).mono ?_; rintro e w7 ⟨rfl, hb⟩; have DA_7 := Lib.hid (dots_below DA_6.out hb); have B7 := Lib.hid (below_next B6.out hb); clear hb)
    | (refine build_on (by rfl) 25 #[(0, .const (.int .i64 0)), (1, .const (.int .i64 2))] rfl _ _ (dot_built _ _) (by simp [Act.eval]) ?_)
    | (go_at_call 16; with_reducible refine (HS.out w7 _ DA_7.out).mono ?_; rintro e w8 ⟨rfl, hb⟩; have B8 := Lib.hid (below_next B7.out hb); clear hb))
  go_ret
  exact ⟨rfl, B8.out⟩
end Go.Proofs.YtoephjmjlhgjeaaDoor
namespace Go.Proofs.YtoephjmjlhgjeaaDoor
open Go.ChangeShapes Go.WideShapes Go.ChangeAt Go.RowKit
set_option maxRecDepth 100000 in
set_option linter.unusedSimpArgs false in
/-- A struct of type api.Dot by value, opened. -/
theorem open_dot {H : Type} {enc : TypeId × Value → H} {w : World} {base : Nat} {sp : Nat → Bool} {held : Bool} {r : Reach} {b0 : Nat} {v : Value} {d : DataW H} {p : List MemPlace} (hv : Value.okWide Tryd.prog w r b0 25 v) (h : DataW.Trod enc Tryd.prog w base sp held 25 v d p) :
    ∃ (xReplica : Int) (xSeq : Int), v = .agg #[.int .i64 xReplica, .int .i64 xSeq] ∧ d = .agg [.lit (.int .i64 xReplica), .lit (.int .i64 xSeq)] ∧ (Lit.int .i64 xReplica).wf = true ∧ (Lit.int .i64 xSeq).wf = true := by
  have hc0 : Tryd.prog.cellsOf 25 = 2 := by kernel_rfl
  have hc1 : Tryd.prog.cellsOf 3 = 1 := by kernel_rfl
  have hc2 : Tryd.prog.cellsOf 2 = 1 := by kernel_rfl
  unfold Value.okWide at hv
  rw [Tryd.underlying25] at hv
  obtain ⟨cs, rfl, hsz, _⟩ := hv
  rw [hc0] at hsz
  obtain ⟨fuel, hy⟩ := h
  match cs, hsz with
  | ⟨[c0, c1]⟩, _ =>
  change DataW.trod enc Tryd.prog w base sp held fuel 25 [c0, c1] = some (d, p) at hy
  obtain ⟨ys, m, _, hx0, _, hl, hf⟩ := DataW.trod_struct Tryd.underlying25 hy
  obtain ⟨rfl, rfl⟩ := Prod.mk.inj hx0
  match ys, hl with
  | [y_0, y_1], _ =>
  have hy_0 := hf 0 _ rfl
  have hy_1 := hf 1 _ rfl
  simp [hc0, hc1, hc2] at hy_0 hy_1
  obtain ⟨xReplica, e_xReplica, rfl, s_xReplica⟩ := DataW.trod_int Tryd.underlying3 hy_0
  obtain ⟨xSeq, e_xSeq, rfl, s_xSeq⟩ := DataW.trod_int Tryd.underlying2 hy_1
  simp at e_xReplica e_xSeq
  subst e_xReplica e_xSeq
  exact ⟨xReplica, xSeq, rfl, by simp, s_xReplica, s_xSeq⟩
end Go.Proofs.YtoephjmjlhgjeaaDoor
namespace Go.Proofs.YtoephjmjlhgjeaaDoor
open Go.ChangeShapes Go.WideShapes Go.ChangeAt Go.RowKit
theorem open_dots_has {H : Type} {enc : TypeId × Value → H} {P : Program} {w : World} {base : Nat} {sp : Nat → Bool} {held : Bool} {r : Reach} {b0 : Nat} {t e : TypeId} {f0 f1 : Field} {v : Value} {d : DataW H} {p : List MemPlace}
    (ht : P.underlying t = some (.slice e)) (he : P.underlying e = some (.struct #[f0, f1])) (ce : P.cellsOf e = 2) (o0 : f0.offset = 0) (o1 : f1.offset = 1) (c0 : P.cellsOf f0.type = 1) (c1 : P.cellsOf f1.type = 1)
    (h0 : P.underlying f0.type = some (.int .i64)) (h1 : P.underlying f1.type = some (.int .i64))
    (hv : Value.okWide P w r b0 t v) (h : DataW.Trod enc P w base sp held t v d p) : ∃ l : List D2, HasDots w v l := by
  obtain ⟨a1, len, cap, rfl⟩ := okWide_slice ht hv
  obtain ⟨fuel, hf⟩ := h
  rcases Go.Deep.open_slice_pairs ht he ce o0 o1 c0 c1 hf with ⟨hcs, -⟩ | ⟨a, len', cap', m, n, V0, V1, D0, D1, P0, P1, hcs, _, hl, hm, hmm, hx, hrow⟩
  · simp [Value.cells] at hcs
    obtain ⟨rfl, rfl, rfl⟩ := hcs
    exact ⟨[], dots_nil w⟩
  · simp [Value.cells] at hcs
    obtain ⟨rfl, rfl, rfl⟩ := hcs
    have hlm : len ≤ m := by rw [hmm]; split <;> omega
    have each : ∀ i, i < len → ∃ y : D2, w.cell? (a.add (i * 2)) = some (.int .i64 y.1) ∧ w.cell? (a.add (i * 2 + 1)) = some (.int .i64 y.2) := fun i hi => by
      obtain ⟨g1, g2, g3, g4⟩ := hrow i (by omega)
      obtain ⟨x, e1, -, -⟩ := DataW.trod_int h0 g3
      obtain ⟨z, e2, -, -⟩ := DataW.trod_int h1 g4
      simp only [List.cons.injEq, and_true] at e1 e2
      exact ⟨(x, z), by rw [g1, e1], by rw [g2, e2]⟩
    obtain ⟨y, hy⟩ := Go.Deep.choose_lt each
    have hus : ∀ i x, ((List.range len).map y)[i]? = some x → i < len ∧ x = y i := fun i x hx => by
      have hi : i < len := by
        have := (List.getElem?_eq_some_iff.1 hx).1
        simpa using this
      refine ⟨hi, ?_⟩
      rw [List.getElem?_map, List.getElem?_range hi] at hx
      exact (Option.some.inj hx).symm
    have hulen : ((List.range len).map y).length = len := by simp
    refine ⟨(List.range len).map y, some a, cap, by rw [hulen], (fun h => by cases h), fun ad had => ⟨by rw [hulen]; exact hl, fun j u hu => ?_⟩⟩
    cases had
    obtain ⟨i, x, hx, hor⟩ := dotsC_inv _ j u hu
    obtain ⟨hi, rfl⟩ := hus i x hx
    rcases hor with ⟨rfl, rfl⟩ | ⟨rfl, rfl⟩
    · exact (hy i hi).1
    · exact (hy i hi).2
set_option maxRecDepth 100000 in
set_option linter.unusedSimpArgs false in
/-- Two dots by value, opened. -/
theorem open_two_dots {H : Type} {enc : TypeId × Value → H} {w : World} {base : Nat} {sp : Nat → Bool} {held : Bool} {r : Reach} {b0 : Nat} {v : Value} {d : DataW H} {p : List MemPlace} (hv : Value.okWide Tryd.prog w r b0 42 v) (h : DataW.Trod enc Tryd.prog w base sp held 42 v d p) :
    ∃ r q r' q' : Int, v = .agg #[.int .i64 r, .int .i64 q, .int .i64 r', .int .i64 q'] := by
  have hc0 : Tryd.prog.cellsOf 42 = 4 := by kernel_rfl
  have hc1 : Tryd.prog.cellsOf 25 = 2 := by kernel_rfl
  have hc2 : Tryd.prog.cellsOf 3 = 1 := by kernel_rfl
  have hc3 : Tryd.prog.cellsOf 2 = 1 := by kernel_rfl
  unfold Value.okWide at hv
  rw [Tryd.underlying42] at hv
  obtain ⟨cs, rfl, hsz, _⟩ := hv
  rw [hc0] at hsz
  obtain ⟨fuel, hy⟩ := h
  match cs, hsz with
  | ⟨[k0, k1, k2, k3]⟩, _ =>
  obtain ⟨xs, m, -, -, -, hl, hel⟩ := DataW.trod_array Tryd.underlying42 hy
  match xs, hl with
  | [x0, x1], _ =>
  have g0 := hel 0 (by decide)
  have g1 := hel 1 (by decide)
  rw [hc1] at g0 g1
  have two : ∀ (u v : Value) (x : DataW H × List MemPlace), DataW.trod enc Tryd.prog w base sp held m 25 [u, v] = some x → ∃ a b : Int, u = .int .i64 a ∧ v = .int .i64 b := fun u v x hh => by
    obtain ⟨ys, m', _, _, _, hl', hf⟩ := DataW.trod_struct Tryd.underlying25 hh
    match ys, hl' with
    | [y_0, y_1], _ =>
    have hy_0 := hf 0 _ rfl
    have hy_1 := hf 1 _ rfl
    simp [hc1, hc2, hc3] at hy_0 hy_1
    obtain ⟨a, e1, -, -⟩ := DataW.trod_int Tryd.underlying3 hy_0
    obtain ⟨b, e2, -, -⟩ := DataW.trod_int Tryd.underlying2 hy_1
    simp at e1 e2
    exact ⟨a, b, e1, e2⟩
  obtain ⟨a, b, rfl, rfl⟩ := two k0 k1 x0 g0
  obtain ⟨c, e, rfl, rfl⟩ := two k2 k3 x1 g1
  exact ⟨a, b, c, e, rfl⟩
end Go.Proofs.YtoephjmjlhgjeaaDoor
namespace Go.Proofs.YtoephjmjlhgjeaaDoor
theorem bulk_mem {H : Type} {d : DataW H} : ∀ {l : List (DataW H)}, d ∈ l → Rows.uptoBulk d ≤ Rows.uptoBulkAll l
  | x :: r, h => by
    simp only [Rows.uptoBulkAll]
    rcases List.mem_cons.1 h with e | e
    · subst e; omega
    · have := bulk_mem e; omega
theorem small_string {H : Type} {l : List (DataW H)} (hk : Rows.uptoSmall H l = true) {bytes : List UInt8} (h : DataW.lit (.string bytes) ∈ l) : bytes.length < 1048576 := by
  have h1 := bulk_mem h
  have h2 : Rows.uptoBulkAll l ≤ 1048576 := by simpa [Rows.uptoSmall] using hk
  simp only [Rows.uptoBulk] at h1
  omega
end Go.Proofs.YtoephjmjlhgjeaaDoor
namespace Go.Proofs.YtoephjmjlhgjeaaDoor
theorem witness_zip {H : Type} {enc : TypeId × Value → H} {C : Checked} {os : Os} {f : FuncId} {fn : Func} {s : OpenSpec} {conds : List PathCond} {apart : Bool} {laid : List (String × DataW Unit)} (modest : Bool) (w0 : World) (args : Array Value) (hos : w0.os = os)
    (hs : (w0.forCall (fun _ _ => 0) ⟨#[], args, []⟩).Shaped C.prog) (hok : Input.okWideB C.prog (w0.forCall (fun _ _ => 0) ⟨#[], args, []⟩) f ⟨#[], args, []⟩ = true)
    (hrow : s.preRow enc C.prog fn conds apart laid (w0.forCall (fun _ _ => 0) ⟨#[], args, []⟩).memory args) :
    ∃ (w : World) (tape : Tape) (i : Input), w.os = os ∧ (w.forCall tape i).Shaped C.prog ∧ i.vars = [] ∧ Input.okWide C.prog (w.forCall tape i) .any w.heap.size f i ∧
      s.preRow enc C.prog fn conds apart laid (w.forCall tape i).memory i.args ∧ ({ modest := modest } : Assume).holds C.prog (lone (Frame.enter C.prog f i.args .normal) [] (w.forCall tape i)) :=
  ⟨w0, fun _ _ => 0, ⟨#[], args, []⟩, hos, hs, (Input.okWide_of_okWideB (base := 0) hok).1, (Input.okWide_of_okWideB hok).2, hrow, by
    simp only [Assume.holds]
    exact ⟨by simp, by simp, fun _ => Modest.zero, by simp, by simp⟩⟩
end Go.Proofs.YtoephjmjlhgjeaaDoor
