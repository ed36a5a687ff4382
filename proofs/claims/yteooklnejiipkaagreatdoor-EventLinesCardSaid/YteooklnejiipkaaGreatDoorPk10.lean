/-
Texts that all claims of this seat share, part 10: Ref10Parse, Ref12Words, Ref12Parse, OpenDots, Open12, Parts.
-/
import Derived.Test.YteooklnejiipkaaGreatDoorProg
import Derived.WalkKit
import Derived.ProofKit
import Derived.OpenShut
import Derived.Deep.SlicePairs
import Derived.SizedLaws
import Derived.Test.YteooklnejiipkaaGreatDoorPk9
namespace Go.Proofs.YteooklnejiipkaaGreatDoor
open Go.RowKit
/-- Whether all pieces are dots. -/
def allP (ps : List (List UInt8)) : Bool := ps.all (fun p => parErr p == 0)
theorem allP_snoc (ps : List (List UInt8)) (p : List UInt8) : allP (ps ++ [p]) = (allP ps && parErr p == 0) := by simp [allP, List.all_append]
theorem allP_bad {s : List UInt8} (h : s ≠ [45]) {ps : List (List UInt8)} (hp : ∃ r, piecesB 44 s = ps ++ r) (hb : allP ps = false) : parVErr s = 2 ∧ parV s = [] := by
  obtain ⟨r, hr⟩ := hp
  refine par_bad h ?_
  rw [goodP]
  have : (piecesB 44 s).all (fun p => parErr p == 0) = false := by
    rw [hr, List.all_append, show ps.all (fun p => parErr p == 0) = false from hb]; rfl
  rw [this]; rfl
/-- What the last comparison tells. -/
theorem last_cmp {s : List UInt8} (h : s ≠ [45]) (ha : allP (piecesB 44 s) = true) : (textV ((piecesB 44 s).map dotOf) = s ∧ parVErr s = 0 ∧ parV s = (piecesB 44 s).map dotOf) ∨ (textV ((piecesB 44 s).map dotOf) ≠ s ∧ parVErr s = 2 ∧ parV s = []) := by
  have hps : vecPs s = piecesB 44 s := by rw [vecPs, if_neg h]
  have hd : dotsOf s = (piecesB 44 s).map dotOf := by rw [dotsOf, hps]
  by_cases e : textV ((piecesB 44 s).map dotOf) = s
  · have hi : isVecT s = true := by
      rw [isVecT, hps, hd, show (piecesB 44 s).all (fun p => parErr p == 0) = true from ha, Bool.true_and, beq_iff_eq]; exact e
    exact .inl ⟨e, by rw [parVErr, hi]; rfl, by rw [parV, hi, hd]; rfl⟩
  · have hi : isVecT s = false := by
      rw [isVecT, hd, Bool.and_eq_false_iff]; right; rw [beq_eq_false_iff_ne]; exact e
    exact .inr ⟨e, by rw [parVErr, hi]; rfl, by rw [parV, hi]; rfl⟩
/-- The pieces that are whole ahead of a place are the first ones. -/
theorem cut_take (c : UInt8) (s : List UInt8) (k : Nat) : ∃ r, piecesB c s = (cutS c (s.take k)).1 ++ r := by
  have h : ∀ (r : List UInt8) (st : List (List UInt8) × List UInt8), ∃ z, (r.foldl (cutStep c) st).1 = st.1 ++ z := by
    intro r
    induction r with
    | nil => intro st; exact ⟨[], by simp⟩
    | cons b t ih =>
      intro st
      obtain ⟨z, hz⟩ := ih (cutStep c st b)
      rw [List.foldl_cons, hz]
      unfold cutStep
      split
      · exact ⟨[st.2] ++ z, by simp⟩
      · exact ⟨z, rfl⟩
  obtain ⟨z, hz⟩ := h (s.drop k) (cutS c (s.take k))
  refine ⟨z ++ [(cutS c s).2], ?_⟩
  have e : cutS c s = (s.drop k).foldl (cutStep c) (cutS c (s.take k)) := by
    conv => lhs; rw [← List.take_append_drop k s]
    rw [cutS, List.foldl_append]; rfl
  rw [piecesB, ← List.append_assoc, ← hz, ← e]
/-- Where a reading of a text stands: k bytes are read, the last piece began at f, the whole ones ahead of it are L. -/
def AtCut (s : List UInt8) (m k f : Nat) (L : List (List UInt8)) : Prop :=
  allP L = true ∧ ((k ≤ m ∧ f ≤ k ∧ f + (cutS 44 (s.take k)).2.length = k ∧ L = (cutS 44 (s.take k)).1) ∨ (k = m + 1 ∧ L = piecesB 44 s))
theorem atCut_start (s : List UInt8) (m : Nat) : AtCut s m 0 0 [] := ⟨rfl, .inl ⟨by omega, Nat.le_refl _, rfl, rfl⟩⟩
/-- The piece that ends at a place. -/
theorem cut_piece {s : List UInt8} {m k f : Nat} {L : List (List UInt8)} (h : AtCut s m k f L) (hm : m = s.length) (hk : k ≤ m) : f ≤ k ∧ (s.take k).drop f = (cutS 44 (s.take k)).2 ∧ L = (cutS 44 (s.take k)).1 := by
  obtain ⟨-, ⟨-, h0, h1, h2⟩ | ⟨h1, -⟩⟩ := h
  · have h3 := cut_end 44 (s.take k)
    rw [List.length_take, Nat.min_eq_left (by omega), show k - (cutS 44 (s.take k)).2.length = f by omega] at h3
    exact ⟨h0, h3, h2⟩
  · omega
theorem atCut_other {s : List UInt8} {m k f : Nat} {L : List (List UInt8)} {c : UInt8} (h : AtCut s m k f L) (hm : m = s.length) (hc : s[k]? = some c) (h44 : c ≠ 44) : AtCut s m (k + 1) f L := by
  obtain ⟨hlt, he⟩ := List.getElem?_eq_some_iff.1 hc
  obtain ⟨ha, ⟨h1, h0, h2, h3⟩ | ⟨h1, -⟩⟩ := h
  · refine ⟨ha, .inl ⟨by omega, by omega, ?_, ?_⟩⟩
    · rw [cutS_take 44 hlt, he, cutStep, if_neg h44, List.length_append, List.length_singleton]; omega
    · rw [cutS_take 44 hlt, he, cutStep, if_neg h44, h3]
  · omega
theorem atCut_comma {s : List UInt8} {m k f : Nat} {L : List (List UInt8)} {p : List UInt8} (h : AtCut s m k f L) (hm : m = s.length) (hc : s[k]? = some 44) (hp : p = (cutS 44 (s.take k)).2) (he : parErr p = 0) : AtCut s m (k + 1) (k + 1) (L ++ [p]) := by
  obtain ⟨hlt, hx⟩ := List.getElem?_eq_some_iff.1 hc
  obtain ⟨ha, ⟨h1, h0, h2, h3⟩ | ⟨h1, -⟩⟩ := h
  · refine ⟨by rw [allP_snoc, ha, he]; rfl, .inl ⟨by omega, Nat.le_refl _, ?_, ?_⟩⟩
    · rw [cutS_take 44 hlt, hx, cutStep, if_pos rfl]; rfl
    · rw [cutS_take 44 hlt, hx, cutStep, if_pos rfl, h3, hp]
  · omega
theorem atCut_end {s : List UInt8} {m f : Nat} {L : List (List UInt8)} {p : List UInt8} (h : AtCut s m m f L) (hm : m = s.length) (hp : p = (cutS 44 (s.take m)).2) (he : parErr p = 0) : AtCut s m (m + 1) (m + 1) (L ++ [p]) := by
  obtain ⟨ha, ⟨h1, h0, h2, h3⟩ | ⟨h1, -⟩⟩ := h
  · refine ⟨by rw [allP_snoc, ha, he]; rfl, .inr ⟨rfl, ?_⟩⟩
    rw [h3, hp, hm, List.take_length, piecesB]
  · omega
theorem atCut_bad {s : List UInt8} {m k f : Nat} {L : List (List UInt8)} {p : List UInt8} (h : AtCut s m k f L) (hm : m = s.length) (hk : k ≤ m) (h45 : s ≠ [45]) (hend : k = m ∨ s[k]? = some 44) (hp : p = (cutS 44 (s.take k)).2) (he : parErr p ≠ 0) : parVErr s = 2 ∧ parV s = [] := by
  have hb : allP (L ++ [p]) = false := by rw [allP_snoc, beq_eq_false_iff_ne.2 he, Bool.and_false]
  refine allP_bad h45 (ps := L ++ [p]) ?_ hb
  have hL := (cut_piece h hm hk).2.2
  rcases hend with rfl | hc
  · exact ⟨[], by rw [hL, hp, hm, List.take_length, piecesB, List.append_nil]⟩
  · obtain ⟨hlt, hx⟩ := List.getElem?_eq_some_iff.1 hc
    obtain ⟨r, hr⟩ := cut_take 44 s (k + 1)
    rw [cutS_take 44 hlt, hx, cutStep, if_pos rfl] at hr
    exact ⟨r, by rw [hr, hL, hp]⟩
theorem atCut_len {s : List UInt8} {m k f : Nat} {L : List (List UInt8)} (h : AtCut s m k f L) (hm : m = s.length) : L.length ≤ m + 1 := by
  obtain ⟨-, ⟨h1, -, -, h3⟩ | ⟨-, h3⟩⟩ := h
  · rw [h3]; have := pieces_count 44 (s.take k); rw [List.length_take] at this; omega
  · rw [h3]; have := pieces_length 44 s; omega
set_option maxRecDepth 100000 in
set_option maxHeartbeats 16000000 in
theorem refParse_typ10 (s : List UInt8) (hs : s.length < 1048576) (w : World) : Calls Tryz.prog 46 #[.string (str s)] w fun e w' => ∃ v, e = .returned (.tuple #[v, .int .i64 (parVErr s)]) ∧ TypDots w' v (parV s) ∧ Below w.heap.size w w' := by
  obtain ⟨i0, hi, hz⟩ := infoDot
  obtain ⟨m, hm⟩ : ∃ m, m = s.length := ⟨_, rfl⟩
  have HM := Lib.hid hm
  have hsz : (str s).size = m := by rw [str_size, hm]
  rw [← hm] at hs
  have s2 : (str s).toList = s := str_toList s
  have s3 : (ByteArray.mk #[45]).toList = [45] := ByteArray.toList_mk _
  by_cases h45 : s = [45]
  · have HP := Lib.hid (show parVErr s = 0 ∧ parV s = [] by rw [h45]; exact par_hyphen)
    have q1 : (s == [45]) = true := by rw [h45]; rfl
    have TX := Lib.hid (fun w => refText_any10 [] (by simp) (.slice none 0 0) w (dots_nil w))
    rw [show textV [] = s by rw [h45]; decide +kernel] at TX
    clear h45 hs hm
    go_enter Tryz.func46, Tryz.ntmps46
    go_wp2
    go_loopw [4, 5, 6] (fun o f c wr => o = .slice none 0 0 ∧ c = .int .i64 0 ∧ wr = w) (fun _ _ _ _ => 0)
    case atStart => exact ⟨rfl, rfl, rfl⟩
    case round =>
      obtain ⟨rfl, rfl, rfl⟩ := hrel
      go_wp2_with (first | (go_at_call 40; refine (TX.out _).mono ?_; rintro e w2 ⟨rfl, hb⟩; have B2 := Lib.hid hb; clear hb))
      go_ret2
      exact ⟨_, by rw [HP.out.1]; rfl, by rw [HP.out.2]; exact typ_nil _, B2.out⟩
  · have q1 : (s == [45]) = false := by rw [beq_eq_false_iff_ne]; exact h45
    have HH := Lib.hid h45
    have HMS := Lib.hid hs
    clear h45 hm
    go_enter Tryz.func46, Tryz.ntmps46
    go_wp2
    go_loopw [4, 5, 6] (fun o x c wr => ∃ (f k : Nat) (L : List (List UInt8)), k ≤ m + 1 ∧ c = .int .i64 (k : Int) ∧ x = .int .i64 (f : Int) ∧ AtCut s m k f L ∧ wr.ownsRow w.heap.size 23 2 o (L.map dotOf).length (dotsC (L.map dotOf)) ∧ Below w.heap.size w wr) (fun _ _ c _ => m + 1 - (intOf c).toNat)
    case atStart => exact ⟨0, 0, [], by omega, rfl, rfl, atCut_start s m, dots_own_nil _ _ _, Below.refl _ _⟩
    case round =>
      obtain ⟨f, k, L, hk, rfl, rfl, hcut, ho, hb⟩ := hrel
      have HC := Lib.hid hcut
      have HO := Lib.hid ho
      have HB := Lib.hid hb
      by_cases hkn : k ≤ m
      · have q0 : ¬ (m : Int) < (k : Int) := by omega
        have KK := Lib.hid (show k + 1 ≤ m + 1 ∧ m + 1 - (k + 1) < m + 1 - k by omega)
        obtain ⟨hfk, hpe, hLe⟩ := cut_piece hcut HM.out hkn
        have sl : ∀ w, (Instr.slice 9 (.string (str s)) (some (.int .i64 (f : Int))) (some (.int .i64 (k : Int))) none).run Tryz.prog w = .ok (.string (str ((s.take k).drop f))) w := fun w => slice_mid w 9 s f k hfk (by rw [← HM.out]; exact hkn) Tryz.underlying9
        rw [hpe] at sl
        obtain ⟨p, hpp⟩ : ∃ p, p = (cutS 44 (s.take k)).2 := ⟨_, rfl⟩
        rw [← hpp] at sl
        have HPL := Lib.hid (show p.length ≤ m by rw [hpp]; have h := cut_length 44 (s.take k); rw [List.length_take] at h; omega)
        clear hpe hLe hcut ho hb hfk
        by_cases hend : k = m
        · subst hend
          have PX := Lib.hid (fun w => refParse_any9 p (by have h1 := HPL.out; have h2 := HMS.out; omega) w)
          obtain ⟨r, hr'⟩ : ∃ r, r = parR p := ⟨_, rfl⟩
          obtain ⟨q, hq'⟩ : ∃ q, q = parQ p := ⟨_, rfl⟩
          obtain ⟨E, hE⟩ : ∃ E, E = parErr p := ⟨_, rfl⟩
          rw [← hr', ← hq', ← hE] at PX
          have HN := Lib.hid (show (L ++ [p]).map dotOf = L.map dotOf ++ [(r, q)] by rw [List.map_append, hr', hq']; rfl)
          have HLL := Lib.hid (show (L.map dotOf).length + 1 ≤ 2000000 by have h := atCut_len HC.out HM.out; have h2 := HMS.out; rw [List.length_map]; omega)
          clear hr' hq'
          by_cases hE0 : E = 0
          · have HX := Lib.hid (atCut_end HC.out HM.out hpp (by rw [← hE]; exact hE0))
            subst hE0
            clear hE hpp
            go_wp2_with (first
              | (go_at_call 45; refine (PX.out _).mono ?_; rintro e w2 ⟨rfl, hb⟩; have B2 := Lib.hid (below_next HB.out hb); have O2 := Lib.hid (own_below HO.out hb); clear hb)
              | (refine load_row_on (by rfl) 23 (.tmp 7) rfl w2.heap.size rfl 23 _ (0, 0) _ (heap_last w2 _) Tryz.underlying23 rfl (by kernel_rfl) ?_)
              | (at_builtin; refine append_dot rfl (.tmp 39) (.tmp 41) 25 rfl w.heap.size 23 i0 Tryz.underlying25 hi hz _ (L.map dotOf) (r, q) rfl ((O2.out.alloc _).alloc _) ⟨w2.heap.size + 1, 0, none⟩ 1 rfl ⟨(cell_of_row _ _ 0 _ _ _ (alloc2_1 w2 _ _)).trans rfl, by rw [Addr.add_lit]; exact (cell_of_row _ _ (0 + 1) _ _ _ (alloc2_1 w2 _ _)).trans rfl⟩ HLL.out (by have := B2.out.size; simp <;> omega) ?_; intro v1 w3 ho hg; rw [← HN.out] at ho; have HO1 := Lib.hid ho; have HB1 := Lib.hid (below_grown ((B2.out.alloc B2.out.size _).alloc (by have := B2.out.size; simp <;> omega) _) hg (by have := B2.out.size; simp <;> omega) (fun j hj => by have := (O2.out.lt j hj).1; omega)); clear ho hg))
            refine ⟨⟨k + 1, k + 1, L ++ [p], KK.out.1, by simp, by simp, HX.out, HO1.out, HB1.out⟩, ?_⟩
            have := KK.out.2; simp [intOf] <;> omega
          · have HX := Lib.hid (atCut_bad HC.out HM.out hkn HH.out (.inl rfl) hpp (by rw [← hE]; exact hE0))
            have t1 : (E != 0) = true := bne_iff_ne.2 hE0
            clear hE hpp hE0
            go_wp2_with (first
              | (go_at_call 45; refine (PX.out _).mono ?_; rintro e w2 ⟨rfl, hb⟩; have B2 := Lib.hid (below_next HB.out hb); have O2 := Lib.hid (own_below HO.out hb); clear hb))
            go_ret2
            exact ⟨_, by rw [HX.out.1]; rfl, by rw [HX.out.2]; exact typ_nil _, B2.out.alloc B2.out.size _⟩
        · obtain ⟨c, hc⟩ : ∃ c, s[k]? = some c := ⟨s[k]'(by have := HM.out; omega), List.getElem?_eq_getElem _⟩
          have i1 := fun w => index_str (P := Tryz.prog) w s .i64 k c hc Tryz.underlying9
          obtain ⟨x, hx⟩ : ∃ x, c.toNat = x := ⟨_, rfl⟩
          rw [hx] at i1
          have t2 : ((k : Int) == (m : Int)) = false := beq_eq_false_iff_ne.2 (by omega)
          have q2 : (k : Int) < (m : Int) := by omega
          by_cases h44 : x = 44
          · subst h44
            have hc44 : s[k]? = some 44 := by rw [hc]; exact congrArg some (UInt8.toNat_inj.1 hx)
            have HC44 := Lib.hid hc44
            clear hc hx hend
            have PX := Lib.hid (fun w => refParse_any9 p (by have h1 := HPL.out; have h2 := HMS.out; omega) w)
            obtain ⟨r, hr'⟩ : ∃ r, r = parR p := ⟨_, rfl⟩
            obtain ⟨q, hq'⟩ : ∃ q, q = parQ p := ⟨_, rfl⟩
            obtain ⟨E, hE⟩ : ∃ E, E = parErr p := ⟨_, rfl⟩
            rw [← hr', ← hq', ← hE] at PX
            have HN := Lib.hid (show (L ++ [p]).map dotOf = L.map dotOf ++ [(r, q)] by rw [List.map_append, hr', hq']; rfl)
            have HLL := Lib.hid (show (L.map dotOf).length + 1 ≤ 2000000 by have h := atCut_len HC.out HM.out; have h2 := HMS.out; rw [List.length_map]; omega)
            clear hr' hq' hc44
            by_cases hE0 : E = 0
            · have HX := Lib.hid (atCut_comma HC.out HM.out HC44.out hpp (by rw [← hE]; exact hE0))
              subst hE0
              clear hE hpp
              go_wp2_with (first
                | (go_at_call 45; refine (PX.out _).mono ?_; rintro e w2 ⟨rfl, hb⟩; have B2 := Lib.hid (below_next HB.out hb); have O2 := Lib.hid (own_below HO.out hb); clear hb)
                | (refine load_row_on (by rfl) 23 (.tmp 7) rfl w2.heap.size rfl 23 _ (0, 0) _ (heap_last w2 _) Tryz.underlying23 rfl (by kernel_rfl) ?_)
                | (at_builtin; refine append_dot rfl (.tmp 39) (.tmp 41) 25 rfl w.heap.size 23 i0 Tryz.underlying25 hi hz _ (L.map dotOf) (r, q) rfl ((O2.out.alloc _).alloc _) ⟨w2.heap.size + 1, 0, none⟩ 1 rfl ⟨(cell_of_row _ _ 0 _ _ _ (alloc2_1 w2 _ _)).trans rfl, by rw [Addr.add_lit]; exact (cell_of_row _ _ (0 + 1) _ _ _ (alloc2_1 w2 _ _)).trans rfl⟩ HLL.out (by have := B2.out.size; simp <;> omega) ?_; intro v1 w3 ho hg; rw [← HN.out] at ho; have HO1 := Lib.hid ho; have HB1 := Lib.hid (below_grown ((B2.out.alloc B2.out.size _).alloc (by have := B2.out.size; simp <;> omega) _) hg (by have := B2.out.size; simp <;> omega) (fun j hj => by have := (O2.out.lt j hj).1; omega)); clear ho hg))
              refine ⟨⟨k + 1, k + 1, L ++ [p], KK.out.1, by simp, by simp, HX.out, HO1.out, HB1.out⟩, ?_⟩
              have := KK.out.2; simp [intOf] <;> omega
            · have HX := Lib.hid (atCut_bad HC.out HM.out hkn HH.out (.inr HC44.out) hpp (by rw [← hE]; exact hE0))
              have t1 : (E != 0) = true := bne_iff_ne.2 hE0
              clear hE hpp hE0
              go_wp2_with (first
                | (go_at_call 45; refine (PX.out _).mono ?_; rintro e w2 ⟨rfl, hb⟩; have B2 := Lib.hid (below_next HB.out hb); have O2 := Lib.hid (own_below HO.out hb); clear hb))
              go_ret2
              exact ⟨_, by rw [HX.out.1]; rfl, by rw [HX.out.2]; exact typ_nil _, B2.out.alloc B2.out.size _⟩
          · have HX := Lib.hid (atCut_other HC.out HM.out hc (fun e => h44 (by rw [← hx, e]; rfl)))
            have t3 : ((x : Int) == 44) = false := beq_eq_false_iff_ne.2 (by omega)
            clear hc hx hend hpp h44
            go_wp2
            refine ⟨⟨f, k + 1, L, KK.out.1, by simp, by simp, HX.out, HO.out, HB.out⟩, ?_⟩
            have := KK.out.2; simp [intOf] <;> omega
      · obtain rfl : k = m + 1 := by omega
        have hL : L = piecesB 44 s := by
          obtain ⟨-, ⟨h1, -⟩ | ⟨-, h3⟩⟩ := hcut
          · omega
          · exact h3
        have hall : allP L = true := hcut.1
        have q0 : (m : Int) < ((m + 1 : Nat) : Int) := by omega
        have hlen := atCut_len hcut HM.out
        obtain ⟨ao, cap, rfl⟩ := own_slice ho
        have HD := Lib.hid (typ_of_own ho)
        have TX := Lib.hid (fun w hv => refText_any10 (L.map dotOf) (by have h2 := HMS.out; rw [List.length_map]; omega) (.slice ao (L.map dotOf).length cap) w hv)
        obtain ⟨K, hK⟩ : ∃ K, K = (L.map dotOf).length := ⟨_, rfl⟩
        rw [← hK] at TX HD ⊢
        have HLC := Lib.hid (last_cmp HH.out (by rw [← hL]; exact hall))
        rw [← hL] at HLC
        obtain ⟨T, hT⟩ : ∃ T, T = textV (L.map dotOf) := ⟨_, rfl⟩
        rw [← hT] at TX HLC
        have s4 : (str T).toList = T := str_toList T
        clear hL hall hcut ho hb hK hT hkn hlen
        rcases HLC.out with ⟨h1, h2, h3⟩ | ⟨h1, h2, h3⟩
        · have HE := Lib.hid (And.intro h2 h3)
          have t1 : (T == s) = true := beq_iff_eq.2 h1
          clear h1 h2 h3 HLC
          go_wp2_with (first | (go_at_call 40; refine (TX.out _ HD.out.1).mono ?_; rintro e w2 ⟨rfl, hb⟩; have B2 := Lib.hid hb; clear hb))
          go_ret2
          exact ⟨_, by rw [HE.out.1]; rfl, by rw [HE.out.2]; exact typ_below HD.out B2.out, below_next HB.out B2.out⟩
        · have HE := Lib.hid (And.intro h2 h3)
          have t1 : (T == s) = false := beq_eq_false_iff_ne.2 h1
          clear h1 h2 h3 HLC
          go_wp2_with (first | (go_at_call 40; refine (TX.out _ HD.out.1).mono ?_; rintro e w2 ⟨rfl, hb⟩; have B2 := Lib.hid hb; clear hb))
          go_ret2
          exact ⟨_, by rw [HE.out.1]; rfl, by rw [HE.out.2]; exact typ_nil _, below_next HB.out B2.out⟩
end Go.Proofs.YteooklnejiipkaaGreatDoor
namespace Go.Proofs.YteooklnejiipkaaGreatDoor
open Go.RowKit
/-- Where a reading of a text stands: k bytes are read, the last word began at f, the whole ones ahead of it are L. -/
def AtW (s : List UInt8) (m k f : Nat) (L : List (List UInt8)) : Prop :=
  (k ≤ m ∧ f ≤ k ∧ f + (cutS 32 (s.take k)).2.length = k ∧ L = (cutS 32 (s.take k)).1) ∨ (k = m + 1 ∧ L = piecesB 32 s)
theorem atW_start (s : List UInt8) (m : Nat) : AtW s m 0 0 [] := .inl ⟨by omega, Nat.le_refl _, rfl, rfl⟩
theorem word_piece {s : List UInt8} {m k f : Nat} {L : List (List UInt8)} (h : AtW s m k f L) (hm : m = s.length) (hk : k ≤ m) : f ≤ k ∧ (s.take k).drop f = (cutS 32 (s.take k)).2 := by
  obtain ⟨-, h0, h1, h2⟩ | ⟨h1, -⟩ := h
  · have h3 := cut_end 32 (s.take k)
    rw [List.length_take, Nat.min_eq_left (by omega), show k - (cutS 32 (s.take k)).2.length = f by omega] at h3
    exact ⟨h0, h3⟩
  · omega
theorem atW_other {s : List UInt8} {m k f : Nat} {L : List (List UInt8)} {c : UInt8} (h : AtW s m k f L) (hm : m = s.length) (hc : s[k]? = some c) (h32 : c ≠ 32) : AtW s m (k + 1) f L := by
  obtain ⟨hlt, he⟩ := List.getElem?_eq_some_iff.1 hc
  obtain ⟨h1, h0, h2, h3⟩ | ⟨h1, -⟩ := h
  · refine .inl ⟨by omega, by omega, ?_, ?_⟩
    · rw [cutS_take 32 hlt, he, cutStep, if_neg h32, List.length_append, List.length_singleton]; omega
    · rw [cutS_take 32 hlt, he, cutStep, if_neg h32, h3]
  · omega
theorem atW_blank {s : List UInt8} {m k f : Nat} {L : List (List UInt8)} {p : List UInt8} (h : AtW s m k f L) (hm : m = s.length) (hc : s[k]? = some 32) (hp : p = (cutS 32 (s.take k)).2) : AtW s m (k + 1) (k + 1) (L ++ [p]) := by
  obtain ⟨hlt, hx⟩ := List.getElem?_eq_some_iff.1 hc
  obtain ⟨h1, h0, h2, h3⟩ | ⟨h1, -⟩ := h
  · refine .inl ⟨by omega, Nat.le_refl _, ?_, ?_⟩
    · rw [cutS_take 32 hlt, hx, cutStep, if_pos rfl]; rfl
    · rw [cutS_take 32 hlt, hx, cutStep, if_pos rfl, h3, hp]
  · omega
theorem atW_end {s : List UInt8} {m f : Nat} {L : List (List UInt8)} {p : List UInt8} (h : AtW s m m f L) (hm : m = s.length) (hp : p = (cutS 32 (s.take m)).2) : AtW s m (m + 1) (m + 1) (L ++ [p]) := by
  obtain ⟨h1, h0, h2, h3⟩ | ⟨h1, -⟩ := h
  · refine .inr ⟨rfl, ?_⟩
    rw [h3, hp, hm, List.take_length, piecesB]
  · omega
theorem atW_len {s : List UInt8} {m k f : Nat} {L : List (List UInt8)} (h : AtW s m k f L) (hm : m = s.length) : L.length ≤ m + 1 := by
  obtain ⟨h1, -, -, h3⟩ | ⟨-, h3⟩ := h
  · rw [h3]; have := pieces_count 32 (s.take k); rw [List.length_take] at this; omega
  · rw [h3]; have := pieces_length 32 s; omega
set_option maxRecDepth 100000 in
set_option maxHeartbeats 16000000 in
theorem words_any (s : List UInt8) (hs : s.length < 1048576) (w : World) : Calls Tryz.prog 44 #[.string (str s)] w fun e w' => ∃ v, e = .returned v ∧ HasTexts w' v (piecesB 32 s) ∧ Below w.heap.size w w' := by
  obtain ⟨i0, hi, hz0, hz1, hz2⟩ := infoStr10
  obtain ⟨m, hm⟩ : ∃ m, m = s.length := ⟨_, rfl⟩
  have HM := Lib.hid hm
  have hsz : (str s).size = m := by rw [str_size, hm]
  rw [← hm] at hs
  have HMS := Lib.hid hs
  clear hm
  go_enter Tryz.func44, Tryz.ntmps44
  go_wp2
  go_loopw [3, 4, 5] (fun o x c wr => ∃ (f k : Nat) (L : List (List UInt8)), k ≤ m + 1 ∧ c = .int .i64 (k : Int) ∧ x = .int .i64 (f : Int) ∧ AtW s m k f L ∧ wr.ownsRow w.heap.size 9 1 o L.length (textsL L) ∧ Below w.heap.size w wr) (fun _ _ c _ => m + 1 - (intOf c).toNat)
  case atStart => exact ⟨0, 0, [], by omega, rfl, rfl, atW_start s m, World.ownsRow_nil _ _ _ _, Below.refl _ _⟩
  case round =>
    obtain ⟨f, k, L, hk, rfl, rfl, hcut, ho, hb⟩ := hrel
    have HC := Lib.hid hcut
    have HO := Lib.hid ho
    have HB := Lib.hid hb
    by_cases hkn : k ≤ m
    · have q0 : ¬ (m : Int) < (k : Int) := by omega
      have KK := Lib.hid (show k + 1 ≤ m + 1 ∧ m + 1 - (k + 1) < m + 1 - k by omega)
      obtain ⟨hfk, hpe⟩ := word_piece hcut HM.out hkn
      have sl : ∀ w, (Instr.slice 9 (.string (str s)) (some (.int .i64 (f : Int))) (some (.int .i64 (k : Int))) none).run Tryz.prog w = .ok (.string (str ((s.take k).drop f))) w := fun w => slice_mid w 9 s f k hfk (by rw [← HM.out]; exact hkn) Tryz.underlying9
      rw [hpe] at sl
      obtain ⟨p, hpp⟩ : ∃ p, p = (cutS 32 (s.take k)).2 := ⟨_, rfl⟩
      rw [← hpp] at sl
      have HLL := Lib.hid (show L.length + 1 ≤ 8796093022208 by have h := atW_len HC.out HM.out; have h2 := HMS.out; omega)
      clear hpe hcut ho hb hfk
      by_cases hend : k = m
      · subst hend
        have HX := Lib.hid (atW_end HC.out HM.out hpp)
        clear hpp
        go_wp2_with (first
          | (at_builtin; refine append_text rfl (.tmp 22) (.tmp 27) 59 rfl w.heap.size 9 i0 Tryz.underlying59 hi hz0 hz1 hz2 _ L p rfl (HO.out.alloc _) ⟨wr.heap.size, 0, none⟩ 1 rfl ((cell_of_row _ _ 0 _ _ _ (heap_last wr _)).trans rfl) HLL.out (by have := HB.out.size; simp <;> omega) ?_; intro v1 w3 ho hg; have HO1 := Lib.hid ho; have HB1 := Lib.hid (below_grown (HB.out.alloc HB.out.size _) hg (by have := HB.out.size; simp <;> omega) (fun j hj => (HO.out.lt j hj).1)); clear ho hg))
        refine ⟨⟨k + 1, k + 1, L ++ [p], KK.out.1, by simp, by simp, HX.out, HO1.out, HB1.out⟩, ?_⟩
        have := KK.out.2; simp [intOf] <;> omega
      · obtain ⟨c, hc⟩ : ∃ c, s[k]? = some c := ⟨s[k]'(by have := HM.out; omega), List.getElem?_eq_getElem _⟩
        have i1 := fun w => index_str (P := Tryz.prog) w s .i64 k c hc Tryz.underlying9
        obtain ⟨x, hx⟩ : ∃ x, c.toNat = x := ⟨_, rfl⟩
        rw [hx] at i1
        have t2 : ((k : Int) == (m : Int)) = false := beq_eq_false_iff_ne.2 (by omega)
        have q2 : (k : Int) < (m : Int) := by omega
        by_cases h32 : x = 32
        · subst h32
          have hc32 : s[k]? = some 32 := by rw [hc]; exact congrArg some (UInt8.toNat_inj.1 hx)
          have HX := Lib.hid (atW_blank HC.out HM.out hc32 hpp)
          clear hc hx hend hpp hc32
          go_wp2_with (first
            | (at_builtin; refine append_text rfl (.tmp 22) (.tmp 27) 59 rfl w.heap.size 9 i0 Tryz.underlying59 hi hz0 hz1 hz2 _ L p rfl (HO.out.alloc _) ⟨wr.heap.size, 0, none⟩ 1 rfl ((cell_of_row _ _ 0 _ _ _ (heap_last wr _)).trans rfl) HLL.out (by have := HB.out.size; simp <;> omega) ?_; intro v1 w3 ho hg; have HO1 := Lib.hid ho; have HB1 := Lib.hid (below_grown (HB.out.alloc HB.out.size _) hg (by have := HB.out.size; simp <;> omega) (fun j hj => (HO.out.lt j hj).1)); clear ho hg))
          refine ⟨⟨k + 1, k + 1, L ++ [p], KK.out.1, by simp, by simp, HX.out, HO1.out, HB1.out⟩, ?_⟩
          have := KK.out.2; simp [intOf] <;> omega
        · have HX := Lib.hid (atW_other HC.out HM.out hc (fun e => h32 (by rw [← hx, e]; rfl)))
          have t3 : ((x : Int) == 32) = false := beq_eq_false_iff_ne.2 (by omega)
          clear hc hx hend hpp h32
          go_wp2
          refine ⟨⟨f, k + 1, L, KK.out.1, by simp, by simp, HX.out, HO.out, HB.out⟩, ?_⟩
          have := KK.out.2; simp [intOf] <;> omega
    · obtain rfl : k = m + 1 := by omega
      have hL : L = piecesB 32 s := by
        obtain ⟨h1, -⟩ | ⟨-, h3⟩ := hcut
        · omega
        · exact h3
      have q0 : (m : Int) < ((m + 1 : Nat) : Int) := by omega
      have HD := Lib.hid (show HasTexts wr _ (piecesB 32 s) by have h := texts_of_own ho; rw [hL] at h; exact h)
      clear hcut ho hb hkn hL
      go_wp2
      go_ret
      exact ⟨_, rfl, HD.out, HB.out⟩
end Go.Proofs.YteooklnejiipkaaGreatDoor
namespace Go.Proofs.YteooklnejiipkaaGreatDoor
open Go.RowKit
set_option maxRecDepth 100000 in
theorem ev_built4 (e : Ev) (ao : Option Addr) (n c : Nat) : Tryz.prog.built 29 [(0, .agg #[.int .i64 e.r, .int .i64 e.q]), (1, .slice ao n c), (2, .int .i64 2), (3, .string (str e.path))] = some (evC ⟨e.r, e.q, e.deps, 2, e.path, zeroF, 0⟩ (.slice ao n c)) := by kernel_rfl
set_option maxRecDepth 100000 in
theorem ev_zero : (Tryz.prog.info? 29).map (fun i => i.zero) = some (some (.agg (evC noEv (.slice none 0 0)))) := by kernel_rfl
theorem ev_kind (e : Ev) (v : Value) (k : Int) : (evC e v).setIfInBounds 3 (.int .i64 k) = evC ⟨e.r, e.q, e.deps, k, e.path, e.sum, e.size⟩ v := by kernel_rfl
theorem ev_size (e : Ev) (v : Value) (k : Int) : (evC e v).setIfInBounds 37 (.int .i64 k) = evC ⟨e.r, e.q, e.deps, e.kind, e.path, e.sum, k⟩ v := by kernel_rfl
theorem ev_sum (e : Ev) (v : Value) (f : Nat → BitVec 32) : (splice (evC e v).toList 5 (row .u8 32 f).toList).toArray = evC ⟨e.r, e.q, e.deps, e.kind, e.path, f, e.size⟩ v := by kernel_rfl
theorem ready_alloc {P : Program} {md : Region.Mode} {ops : Array Oper} {Q : Exit → Act → World → Prop} {S : World → Prop} {fuel : Nat} {listed : Array Bool} {ts : Array Value} {ds : List Deferred} {w : World} (i d : Nat) (hr : Region.ready md ops listed = [i]) {o : Oper} (hoi : ops[i]? = some o) (hd : o.dst = some d) (hw : Region.wanted o (yielded ops ts) = true) (t : TypeId) (ho : o.op = .alloc t) (cs : Array Value)
    (hz : (P.info? t).map (fun i => i.zero) = some (some (.agg cs))) (hS : S (w.alloc (.cells cs t (0, 0))))
    (h : wpAnyH P md ops Q S fuel (listed.setIfInBounds i true) { tmps := ts.setIfInBounds d (.pointer (some ⟨w.heap.size, 0, none⟩)), defers := ds } (w.alloc (.cells cs t (0, 0)))) : wpAnyH P md ops Q S (fuel + 1) listed { tmps := ts, defers := ds } w :=
  wpAnyH_ready hr (by simp) (AllReadyH.cons hoi (fun K hK => alloc_at d hd hw t ho cs hz (hK.out _ _ hS (fun _ => h))) AllReadyH.nil)
set_option maxRecDepth 100000 in
theorem intSize12 : (Tryz.prog.info? 3).map (·.size) = some 1 := by kernel_rfl
theorem row_ones (f : Nat → BitVec 32) : ∀ u ∈ (row .u8 32 f).toList, u.oneCell' = true := fun u hu => (Array.all_eq_true_iff_forall_mem.1 (row_one .u8 32 f)) u (by simpa using hu)
theorem wd_len (s : List UInt8) (k : Nat) : (wd s k).length ≤ s.length := by
  unfold wd
  by_cases h : k < (piecesB 32 s).length
  · rw [List.getD_eq_getElem?_getD, List.getElem?_eq_getElem h]
    exact piece_length (List.getElem_mem h)
  · rw [List.getD_eq_getElem?_getD, List.getElem?_eq_none (by omega)]; simp
theorem wd_at {s : List UInt8} {k : Nat} (h : k < (piecesB 32 s).length) : (piecesB 32 s)[k]? = some (wd s k) := by
  unfold wd; rw [List.getD_eq_getElem?_getD, List.getElem?_eq_getElem h]; rfl
theorem evOf_fit (s : List UInt8) (hs : s.length < 1048576) : (evOf s).deps.length < 2000000 ∧ (evOf s).path.length < 1152921504606846976 := by
  have h1 := wd_len s 3
  unfold evOf; split
  · exact ⟨parV_len _, by show (wd s 3).length < _; omega⟩
  · exact ⟨parV_len _, by show (wd s 3).length < _; omega⟩
set_option maxRecDepth 100000 in
set_option maxHeartbeats 16000000 in
theorem refParse_bad12 (s : List UInt8) (hs : s.length < 1048576) (n : Nat) (hn : (piecesB 32 s).length = n) (h4 : n ≠ 4) (h6 : n ≠ 6) (w : World) : Calls Tryz.prog 17 #[.string (str s)] w fun x w' => ∃ v, x = .returned (.tuple #[.agg (evC (parE s) v), .int .i64 (parEErr s)]) ∧ HasDots w' v (parE s).deps ∧ Below w.heap.size w w' := by
  have WD := Lib.hid (fun w => words_any s hs w)
  have HN := Lib.hid hn
  have h : isE s = false := by rw [isE, hn]; simp [h4, h6]
  have HR := Lib.hid (show parE s = noEv ∧ parEErr s = 2 by simp [parE, parEErr, h])
  have q4 : ((n : Int) != 4) = true := bne_iff_ne.2 (by omega)
  have q6 : ((n : Int) != 6) = true := bne_iff_ne.2 (by omega)
  clear h hn hs h4 h6
  go_enter Tryz.func17, Tryz.ntmps17
  go_upto_region 1 with fail
  rw [← noEv_cells]
  have E0 := Lib.hid (box_ev w 29 noEv (.slice none 0 0))
  have B0 := Lib.hid ((Below.refl w.heap.size w).alloc (Nat.le_refl _) (.cells (evC noEv (.slice none 0 0)) 29 (0, 0)))
  generalize w.alloc (.cells (evC noEv (.slice none 0 0)) 29 (0, 0)) = W0 at *
  go_upto_region 2 with (first
    | (go_at_call 44; refine (WD.out _).mono ?_; rintro x w1 ⟨v, rfl, hv, hb⟩; have X1 := Lib.hid hv; have E1 := Lib.hid (evAt_kept E0.out hb); have B1 := Lib.hid (below_next B0.out hb); obtain ⟨ao, cap, rfl⟩ := texts_shape hv n HN.out; clear hv hb))
  go_wp2_with (first
    | (refine store_ev rfl 29 (.tmp 2) (.tmp 26) rfl rfl w.heap.size noEv noEv (.slice none 0 0) (.slice none 0 0) rfl (by rw [noEv_cells]; rfl) 29 E1.out evSize rfl ?_; rintro W9 hg hs; have E9 := Lib.hid hg; have B9 := Lib.hid (solo_below B1.out hs (Nat.le_refl _)); clear hg hs))
  exact bodyPost_ret (results_cell2 Tryz.results17 _ _ w.heap.size 29 _ (0, 0) _ _ rfl rfl E9.out Tryz.underlying29 rfl (by rw [evSize, evC_size])) rfl ⟨_, by rw [HR.out.1, HR.out.2]; rfl, by rw [HR.out.1]; exact dots_nil _, B9.out⟩
theorem words_cell {w : World} {s : List UInt8} {ad : Addr} {n c : Nat} (h : HasTexts w (.slice (some ad) n c) (piecesB 32 s)) (_hv : True = True) (hn : (piecesB 32 s).length = n) (k : Nat) (hk : k < n) : w.cell? (ad.add k) = some (.string (str (wd s k))) := by
  obtain ⟨ad', cap', e, h1⟩ := texts_at h n k hn hk (wd s k) (wd_at (by omega))
  injection e with e1 e2 e3
  cases e1
  exact h1
set_option maxRecDepth 100000 in
set_option maxHeartbeats 16000000 in
theorem refParse_412 (s : List UInt8) (hs : s.length < 1048576) (n : Nat) (hn : (piecesB 32 s).length = n) (h4 : n = 4) (w : World) : Calls Tryz.prog 17 #[.string (str s)] w fun x w' => ∃ v, x = .returned (.tuple #[.agg (evC (parE s) v), .int .i64 (parEErr s)]) ∧ HasDots w' v (parE s).deps ∧ Below w.heap.size w w' := by
  have WD := Lib.hid (fun w => words_any s hs w)
  have HN := Lib.hid hn
  have hk := fun k => wd_len s k
  have PD := Lib.hid (fun w => refParse_any9 (wd s 1) (by have := hk 1; omega) w)
  have PV := Lib.hid (fun w => refParse_typ10 (wd s 2) (by have := hk 2; omega) w)
  have PH := Lib.hid (fun w => refParse_any (wd s 4) w)
  have RD := Lib.hid (fun w => refRead_any (wd s 5) 65536 (by have := hk 5; omega) w)
  have q4 : ((n : Int) != 4) = false := by subst h4; decide
  have q6 : ((n : Int) != 6) = true := by subst h4; decide
  have q7 : ((n : Int) == 6) = false := by subst h4; decide
  have s2 : (str s).toList = s := str_toList s
  obtain ⟨f1, f2⟩ := evOf_fit s hs
  obtain ⟨EV, hEV⟩ : ∃ EV : Ev, EV = ⟨parR (wd s 1), parQ (wd s 1), parV (wd s 2), 0, wd s 3, zeroF, 0⟩ := ⟨_, rfl⟩
  obtain ⟨EA, hEA⟩ : ∃ EA : Ev, EA = ⟨parR (wd s 1), parQ (wd s 1), parV (wd s 2), 2, wd s 3, zeroF, 0⟩ := ⟨_, rfl⟩
  obtain ⟨EF, hEF⟩ : ∃ EF : Ev, EF = evOf s := ⟨_, rfl⟩
  have HEV := Lib.hid hEV
  have HEA := Lib.hid hEA
  have HBT := Lib.hid (fun ao n c => ev_built4 EV ao n c)
  rw [show (⟨EV.r, EV.q, EV.deps, 2, EV.path, zeroF, 0⟩ : Ev) = EF by rw [hEF, hEV]; simp [evOf, hn, h4]] at HBT
  have HEO := Lib.hid (show EF = ⟨parR (wd s 1), parQ (wd s 1), parV (wd s 2), 2, wd s 3, zeroF, 0⟩ by rw [hEF]; simp [evOf, hn, h4])
  have HDP := Lib.hid (show EF.deps = parV (wd s 2) by rw [HEO.out])
  have LQ := Lib.hid (fun v w hv => refLine_any12 (evOf s) f1 f2 (evOf_lt s) v w hv)
  rw [← hEF, show EF.deps = parV (wd s 2) from HDP.out] at LQ
  have CS := Lib.hid (show (lineT EF = [] ∧ lineErr EF = 1 ∧ parE s = noEv ∧ parEErr s = 2) ∨ (lineT EF = s ∧ lineErr EF = 0 ∧ parE s = EF ∧ parEErr s = 0) ∨ (lineT EF = lineE EF ∧ lineErr EF = 0 ∧ parE s = noEv ∧ lineE EF ≠ s ∧ parEErr s = 2) by
    have hi : isE s = (mayE EF && lineE EF == s) := by rw [isE, hn, h4, ← hEF]; rfl
    cases hm : mayE EF with
    | false => rw [hm] at hi; exact .inl ⟨by simp [lineT, hm], by simp [lineErr, hm], by simp [parE, hi], by simp [parEErr, hi]⟩
    | true =>
      by_cases he : lineE EF = s
      · have hi' : isE s = true := by rw [hi, hm, he]; simp
        exact .inr (.inl ⟨by simp [lineT, hm, he], by simp [lineErr, hm], by simp [parE, hi', hEF], by simp [parEErr, hi']⟩)
      · have hi' : isE s = false := by rw [hi, hm]; simp [he]
        exact .inr (.inr ⟨by simp [lineT, hm], by simp [lineErr, hm], by simp [parE, hi'], he, by simp [parEErr, hi']⟩))
  clear hk hEV hEA hEF hn hs f1 f2
  go_enter Tryz.func17, Tryz.ntmps17
  go_upto_region 1 with fail
  rw [← noEv_cells]
  have E0 := Lib.hid (box_ev w 29 noEv (.slice none 0 0))
  have B0 := Lib.hid ((Below.refl w.heap.size w).alloc (Nat.le_refl _) (.cells (evC noEv (.slice none 0 0)) 29 (0, 0)))
  generalize w.alloc (.cells (evC noEv (.slice none 0 0)) 29 (0, 0)) = W0 at *
  go_upto_region 2 with (first
    | (go_at_call 44; refine (WD.out _).mono ?_; rintro x w1 ⟨v, rfl, hv, hb⟩; have X1 := Lib.hid hv; have E1 := Lib.hid (evAt_kept E0.out hb); have B1 := Lib.hid (below_next B0.out hb); obtain ⟨ao, cap, rfl⟩ := texts_shape hv n HN.out; clear hv hb))
  obtain ⟨ad, rfl⟩ : ∃ ad, ao = some ad := by
    obtain ⟨ad', cap', e, -⟩ := texts_at X1.out n 1 HN.out (by omega) (wd s 1) (wd_at (by rw [HN.out]; omega))
    injection e with e1 e2 e3
    exact ⟨ad', e1⟩
  go_upto_region 5 with (first
    | (refine load_str_on (by rfl) 9 (.tmp 29) rfl (ad.add 1) rfl _ Tryz.underlying9 (words_cell X1.out rfl HN.out 1 (by omega)) ?_)
    | (go_at_call 45; refine (PD.out _).mono ?_; rintro x w2 ⟨rfl, hb⟩; have X2 := Lib.hid (texts_below X1.out hb); have E2 := Lib.hid (evAt_kept E1.out hb); have B2 := Lib.hid (below_next B1.out hb); clear hb))
  have D3 := Lib.hid (heap_last w2 (.cells #[.int .i64 (parR (wd s 1)), .int .i64 (parQ (wd s 1))] 23 (0, 0)))
  have hb := (Below.refl w2.heap.size w2).alloc (Nat.le_refl _) (.cells #[.int .i64 (parR (wd s 1)), .int .i64 (parQ (wd s 1))] 23 (0, 0))
  have X3 := Lib.hid (texts_below X2.out hb)
  have E3 := Lib.hid (evAt_kept E2.out hb)
  have B3 := Lib.hid (below_next B2.out hb)
  clear hb
  generalize w2.alloc (.cells #[.int .i64 (parR (wd s 1)), .int .i64 (parQ (wd s 1))] 23 (0, 0)) = W3 at *
  go_upto_region 6 with (first
    | (refine load_str_on (by rfl) 9 (.tmp 36) rfl (ad.add 2) rfl _ Tryz.underlying9 (words_cell X3.out rfl HN.out 2 (by omega)) ?_)
    | (go_at_call 46; refine (PV.out _).mono ?_; rintro x w4 ⟨v, rfl, hv, hb⟩; have X4 := Lib.hid (texts_below X3.out hb); have E4 := Lib.hid (evAt_kept E3.out hb); have B4 := Lib.hid (below_next B3.out hb); have D4 := Lib.hid (row_kept D3.out hb); have V4 := Lib.hid hv; obtain ⟨ao2, cap2, rfl⟩ := dots_shape hv.1 _ rfl; clear hb hv))
  refine wp_region_held_drew (S := fun w' => Below w4.heap.size w4 w') (by kernel_rfl) (drawS (Below.refl _ _)) (fun hHeld => ?_)
  generalize w4.drew = wD at hHeld ⊢
  refine take_at (i := 1) 42 rfl rfl (by kernel_rfl) (by kernel_rfl) (by kernel_rfl) (fun _ _ _ h => h) (sure_yes (by rfl) (fun w => by go_simp; try with_reducible rfl)) hHeld ?_
  simp only [List.setIfInBounds_toArray, List.set_cons_zero, List.set_cons_succ]
  refine take_at (i := 2) 43 rfl rfl (by kernel_rfl) (by kernel_rfl) (by kernel_rfl) (fun _ _ _ h => h) (sure_yes (by rfl) (fun w => by go_simp; try with_reducible rfl)) hHeld ?_
  simp only [List.setIfInBounds_toArray, List.set_cons_zero, List.set_cons_succ]
  refine take_at (i := 3) 44 rfl rfl (by kernel_rfl) (by kernel_rfl) (by kernel_rfl) (fun _ _ _ h => h) (sure_yes (by rfl) (fun w => by go_simp; try with_reducible rfl)) hHeld ?_
  simp only [List.setIfInBounds_toArray, List.set_cons_zero, List.set_cons_succ]
  refine take_at (i := 0) 41 rfl rfl (by kernel_rfl) (by kernel_rfl) (by kernel_rfl) (fun _ _ _ h => h) (row_yields (by rfl) 23 (.tmp 5) rfl w2.heap.size rfl 23 _ (0, 0) _ Tryz.underlying23 rfl (by kernel_rfl) (fun _ h => row_kept D4.out h)) hHeld ?_
  simp only [List.setIfInBounds_toArray, List.set_cons_zero, List.set_cons_succ]
  refine take_at (i := 4) 45 rfl rfl (by kernel_rfl) (by kernel_rfl) (by kernel_rfl) (fun _ _ _ h => h) (str_yieldsR (by rfl) 9 (.tmp 44) rfl (ad.add 3) rfl _ Tryz.underlying9 (fun _ h => words_cell (texts_below X4.out h) rfl HN.out 3 (by omega))) hHeld ?_
  simp only [List.setIfInBounds_toArray, List.set_cons_zero, List.set_cons_succ]
  refine take_at (i := 5) 46 rfl rfl (by kernel_rfl) (by kernel_rfl) (by kernel_rfl) (fun _ _ _ h => h) (build_yields (by rfl) 29 #[(0, .tmp 41), (1, .tmp 42), (2, .const (.int .i64 2)), (3, .tmp 45)] rfl _ _ (HBT.out ao2 (parV (wd s 2)).length cap2) (by rw [HEV.out]; simp [Act.eval])) hHeld ?_
  simp only [List.setIfInBounds_toArray, List.set_cons_zero, List.set_cons_succ]
  refine ready_alloc 6 9 (by kernel_rfl) rfl rfl (by rfl) 29 rfl (evC noEv (.slice none 0 0)) ev_zero (hHeld.alloc hHeld.size _) ?_
  simp only [List.setIfInBounds_toArray, List.set_cons_zero, List.set_cons_succ]
  have hHeld2 := hHeld.alloc hHeld.size (.cells (evC noEv (.slice none 0 0)) 29 (0, 0))
  have A6 := Lib.hid (box_ev wD 29 noEv (.slice none 0 0))
  have LW := Lib.hid (show w4.heap.size ≤ wD.heap.size from hHeld.size)
  generalize wD.alloc (.cells (evC noEv (.slice none 0 0)) 29 (0, 0)) = W6 at *
  refine ready_store_ev 7 (by kernel_rfl) rfl rfl (by rfl) 29 (.tmp 9) (.tmp 46) rfl wD.heap.size EF noEv (.slice ao2 (parV (wd s 2)).length cap2) (.slice none 0 0) rfl rfl 29 A6.out evSize rfl (fun w7 hg hs7 => ?_)
  have hb := solo_below hHeld2 hs7 LW.out
  refine ⟨hb, ?_⟩
  have A7 := Lib.hid hg
  have X7 := Lib.hid (texts_below X4.out hb)
  have E7 := Lib.hid (evAt_kept E4.out hb)
  have B7 := Lib.hid (below_next B4.out hb)
  have V7 := Lib.hid (typ_below V4.out hb)
  have LG := Lib.hid (show w.heap.size < wD.heap.size from Nat.lt_of_lt_of_le (Array.getElem?_eq_some_iff.1 E4.out).1 LW.out)
  clear hb hg hs7 hHeld hHeld2
  refine wpAnyH_done (by kernel_rfl) ?_ _
  have A7' := A7
  rcases CS.out with ⟨g1, g2, g3, g4⟩ | ⟨g1, g2, g3, g4⟩ | ⟨g1, g2, g3, g4⟩
  · rw [g1, g2] at LQ
    go_wp2_with (first
      | (refine load_ev_on (by rfl) 29 (.tmp 9) rfl wD.heap.size rfl A7.out Tryz.underlying29 evSize ?_)
      | (go_at_call 15; refine (LQ.out _ _ V7.out.1).mono ?_; rintro x w8 ⟨rfl, hb⟩; have A8 := Lib.hid (evAt_kept A7.out hb); have V8 := Lib.hid (typ_below V7.out hb); have E8 := Lib.hid (evAt_kept E7.out hb); have B8 := Lib.hid (below_next B7.out hb); clear hb)
      | (refine store_ev rfl 29 (.tmp 2) (.tmp 81) rfl rfl w.heap.size noEv noEv (.slice none 0 0) (.slice none 0 0) rfl (by rw [noEv_cells]; rfl) 29 E8.out evSize rfl ?_; rintro W9 hg hs; have E9 := Lib.hid hg; have B9 := Lib.hid (solo_below B8.out hs (Nat.le_refl _)); clear hg hs))
    exact bodyPost_ret (results_cell2 Tryz.results17 _ _ w.heap.size 29 _ (0, 0) _ _ rfl rfl E9.out Tryz.underlying29 rfl (by rw [evSize, evC_size])) rfl ⟨_, by rw [g3, g4]; rfl, by rw [g3]; exact dots_nil _, B9.out⟩
  · rw [g1, g2] at LQ
    go_wp2_with (first
      | (refine load_ev_on (by rfl) 29 (.tmp 9) rfl wD.heap.size rfl A7.out Tryz.underlying29 evSize ?_)
      | (go_at_call 15; refine (LQ.out _ _ V7.out.1).mono ?_; rintro x w8 ⟨rfl, hb⟩; have A8 := Lib.hid (evAt_kept A7.out hb); have V8 := Lib.hid (typ_below V7.out hb); have E8 := Lib.hid (evAt_kept E7.out hb); have B8 := Lib.hid (below_next B7.out hb); clear hb)
      | (refine load_ev_on (by rfl) 29 (.tmp 9) rfl wD.heap.size rfl A8.out Tryz.underlying29 evSize ?_)
      | (refine store_ev rfl 29 (.tmp 2) (.tmp 82) rfl rfl w.heap.size EF noEv (.slice ao2 (parV (wd s 2)).length cap2) (.slice none 0 0) rfl rfl 29 E8.out evSize rfl ?_; rintro W9 hg hs; have E9 := Lib.hid hg; have V9 := Lib.hid (typ_solo V8.out hs E8.out (by decide)); have B9 := Lib.hid (solo_below B8.out hs (Nat.le_refl _)); clear hg hs))
    exact bodyPost_ret (results_cell2 Tryz.results17 _ _ w.heap.size 29 _ (0, 0) _ _ rfl rfl E9.out Tryz.underlying29 rfl (by rw [evSize, evC_size])) rfl ⟨_, by rw [g3, g4]; rfl, by rw [g3]; rw [HDP.out]; exact V9.out.1, B9.out⟩
  · obtain ⟨l, hl⟩ : ∃ l, l = lineE EF := ⟨_, rfl⟩
    rw [← hl] at g1 g4
    rw [g1, g2] at LQ
    have s3 : (str l).toList = l := str_toList l
    have q1 : (l == s) = false := beq_eq_false_iff_ne.2 g4.1
    have q2 : (l != s) = true := bne_iff_ne.2 g4.1
    have g5 := g4.2
    clear hl g4
    go_wp2_with (first
      | (refine load_ev_on (by rfl) 29 (.tmp 9) rfl wD.heap.size rfl A7.out Tryz.underlying29 evSize ?_)
      | (go_at_call 15; refine (LQ.out _ _ V7.out.1).mono ?_; rintro x w8 ⟨rfl, hb⟩; have A8 := Lib.hid (evAt_kept A7.out hb); have V8 := Lib.hid (typ_below V7.out hb); have E8 := Lib.hid (evAt_kept E7.out hb); have B8 := Lib.hid (below_next B7.out hb); clear hb)
      | (refine store_ev rfl 29 (.tmp 2) (.tmp 81) rfl rfl w.heap.size noEv noEv (.slice none 0 0) (.slice none 0 0) rfl (by rw [noEv_cells]; rfl) 29 E8.out evSize rfl ?_; rintro W9 hg hs; have E9 := Lib.hid hg; have B9 := Lib.hid (solo_below B8.out hs (Nat.le_refl _)); clear hg hs))
    exact bodyPost_ret (results_cell2 Tryz.results17 _ _ w.heap.size 29 _ (0, 0) _ _ rfl rfl E9.out Tryz.underlying29 rfl (by rw [evSize, evC_size])) rfl ⟨_, by rw [g3, g5]; rfl, by rw [g3]; exact dots_nil _, B9.out⟩
set_option maxRecDepth 100000 in
set_option maxHeartbeats 16000000 in
theorem refParse_612 (s : List UInt8) (hs : s.length < 1048576) (n : Nat) (hn : (piecesB 32 s).length = n) (h4 : n = 6) (w : World) : Calls Tryz.prog 17 #[.string (str s)] w fun x w' => ∃ v, x = .returned (.tuple #[.agg (evC (parE s) v), .int .i64 (parEErr s)]) ∧ HasDots w' v (parE s).deps ∧ Below w.heap.size w w' := by
  have WD := Lib.hid (fun w => words_any s hs w)
  have HN := Lib.hid hn
  have hk := fun k => wd_len s k
  have PD := Lib.hid (fun w => refParse_any9 (wd s 1) (by have := hk 1; omega) w)
  have PV := Lib.hid (fun w => refParse_typ10 (wd s 2) (by have := hk 2; omega) w)
  have PH := Lib.hid (fun w => refParse_any (wd s 4) w)
  have RD := Lib.hid (fun w => refRead_any (wd s 5) 65536 (by have := hk 5; omega) w)
  have q4 : ((n : Int) != 4) = true := by subst h4; decide
  have q6 : ((n : Int) != 6) = false := by subst h4; decide
  have q7 : ((n : Int) == 6) = true := by subst h4; decide
  have s2 : (str s).toList = s := str_toList s
  obtain ⟨f1, f2⟩ := evOf_fit s hs
  obtain ⟨EV, hEV⟩ : ∃ EV : Ev, EV = ⟨parR (wd s 1), parQ (wd s 1), parV (wd s 2), 0, wd s 3, zeroF, 0⟩ := ⟨_, rfl⟩
  obtain ⟨EA, hEA⟩ : ∃ EA : Ev, EA = ⟨parR (wd s 1), parQ (wd s 1), parV (wd s 2), 2, wd s 3, zeroF, 0⟩ := ⟨_, rfl⟩
  obtain ⟨EF, hEF⟩ : ∃ EF : Ev, EF = evOf s := ⟨_, rfl⟩
  have HEV := Lib.hid hEV
  have HEA := Lib.hid hEA
  have HBT := Lib.hid (fun ao n c => ev_built4 EV ao n c)
  rw [show (⟨EV.r, EV.q, EV.deps, 2, EV.path, zeroF, 0⟩ : Ev) = EA by rw [hEA, hEV]] at HBT
  have HEO := Lib.hid (show EF = ⟨parR (wd s 1), parQ (wd s 1), parV (wd s 2), 1, wd s 3, parsed (wd s 4), readN (wd s 5) 65536⟩ by rw [hEF]; simp [evOf, hn, h4])
  have HDP := Lib.hid (show EF.deps = parV (wd s 2) by rw [HEO.out])
  have LQ := Lib.hid (fun v w hv => refLine_any12 (evOf s) f1 f2 (evOf_lt s) v w hv)
  rw [← hEF, show EF.deps = parV (wd s 2) from HDP.out] at LQ
  have CS := Lib.hid (show (lineT EF = [] ∧ lineErr EF = 1 ∧ parE s = noEv ∧ parEErr s = 2) ∨ (lineT EF = s ∧ lineErr EF = 0 ∧ parE s = EF ∧ parEErr s = 0) ∨ (lineT EF = lineE EF ∧ lineErr EF = 0 ∧ parE s = noEv ∧ lineE EF ≠ s ∧ parEErr s = 2) by
    have hi : isE s = (mayE EF && lineE EF == s) := by rw [isE, hn, h4, ← hEF]; rfl
    cases hm : mayE EF with
    | false => rw [hm] at hi; exact .inl ⟨by simp [lineT, hm], by simp [lineErr, hm], by simp [parE, hi], by simp [parEErr, hi]⟩
    | true =>
      by_cases he : lineE EF = s
      · have hi' : isE s = true := by rw [hi, hm, he]; simp
        exact .inr (.inl ⟨by simp [lineT, hm, he], by simp [lineErr, hm], by simp [parE, hi', hEF], by simp [parEErr, hi']⟩)
      · have hi' : isE s = false := by rw [hi, hm]; simp [he]
        exact .inr (.inr ⟨by simp [lineT, hm], by simp [lineErr, hm], by simp [parE, hi'], he, by simp [parEErr, hi']⟩))
  clear hk hEV hEA hEF hn hs f1 f2
  go_enter Tryz.func17, Tryz.ntmps17
  go_upto_region 1 with fail
  rw [← noEv_cells]
  have E0 := Lib.hid (box_ev w 29 noEv (.slice none 0 0))
  have B0 := Lib.hid ((Below.refl w.heap.size w).alloc (Nat.le_refl _) (.cells (evC noEv (.slice none 0 0)) 29 (0, 0)))
  generalize w.alloc (.cells (evC noEv (.slice none 0 0)) 29 (0, 0)) = W0 at *
  go_upto_region 2 with (first
    | (go_at_call 44; refine (WD.out _).mono ?_; rintro x w1 ⟨v, rfl, hv, hb⟩; have X1 := Lib.hid hv; have E1 := Lib.hid (evAt_kept E0.out hb); have B1 := Lib.hid (below_next B0.out hb); obtain ⟨ao, cap, rfl⟩ := texts_shape hv n HN.out; clear hv hb))
  obtain ⟨ad, rfl⟩ : ∃ ad, ao = some ad := by
    obtain ⟨ad', cap', e, -⟩ := texts_at X1.out n 1 HN.out (by omega) (wd s 1) (wd_at (by rw [HN.out]; omega))
    injection e with e1 e2 e3
    exact ⟨ad', e1⟩
  go_upto_region 5 with (first
    | (refine load_str_on (by rfl) 9 (.tmp 29) rfl (ad.add 1) rfl _ Tryz.underlying9 (words_cell X1.out rfl HN.out 1 (by omega)) ?_)
    | (go_at_call 45; refine (PD.out _).mono ?_; rintro x w2 ⟨rfl, hb⟩; have X2 := Lib.hid (texts_below X1.out hb); have E2 := Lib.hid (evAt_kept E1.out hb); have B2 := Lib.hid (below_next B1.out hb); clear hb))
  have D3 := Lib.hid (heap_last w2 (.cells #[.int .i64 (parR (wd s 1)), .int .i64 (parQ (wd s 1))] 23 (0, 0)))
  have hb := (Below.refl w2.heap.size w2).alloc (Nat.le_refl _) (.cells #[.int .i64 (parR (wd s 1)), .int .i64 (parQ (wd s 1))] 23 (0, 0))
  have X3 := Lib.hid (texts_below X2.out hb)
  have E3 := Lib.hid (evAt_kept E2.out hb)
  have B3 := Lib.hid (below_next B2.out hb)
  clear hb
  generalize w2.alloc (.cells #[.int .i64 (parR (wd s 1)), .int .i64 (parQ (wd s 1))] 23 (0, 0)) = W3 at *
  go_upto_region 6 with (first
    | (refine load_str_on (by rfl) 9 (.tmp 36) rfl (ad.add 2) rfl _ Tryz.underlying9 (words_cell X3.out rfl HN.out 2 (by omega)) ?_)
    | (go_at_call 46; refine (PV.out _).mono ?_; rintro x w4 ⟨v, rfl, hv, hb⟩; have X4 := Lib.hid (texts_below X3.out hb); have E4 := Lib.hid (evAt_kept E3.out hb); have B4 := Lib.hid (below_next B3.out hb); have D4 := Lib.hid (row_kept D3.out hb); have V4 := Lib.hid hv; obtain ⟨ao2, cap2, rfl⟩ := dots_shape hv.1 _ rfl; clear hb hv))
  refine wp_region_held_drew (S := fun w' => Below w4.heap.size w4 w') (by kernel_rfl) (drawS (Below.refl _ _)) (fun hHeld => ?_)
  generalize w4.drew = wD at hHeld ⊢
  refine take_at (i := 1) 42 rfl rfl (by kernel_rfl) (by kernel_rfl) (by kernel_rfl) (fun _ _ _ h => h) (sure_yes (by rfl) (fun w => by go_simp; try with_reducible rfl)) hHeld ?_
  simp only [List.setIfInBounds_toArray, List.set_cons_zero, List.set_cons_succ]
  refine take_at (i := 2) 43 rfl rfl (by kernel_rfl) (by kernel_rfl) (by kernel_rfl) (fun _ _ _ h => h) (sure_yes (by rfl) (fun w => by go_simp; try with_reducible rfl)) hHeld ?_
  simp only [List.setIfInBounds_toArray, List.set_cons_zero, List.set_cons_succ]
  refine take_at (i := 3) 44 rfl rfl (by kernel_rfl) (by kernel_rfl) (by kernel_rfl) (fun _ _ _ h => h) (sure_yes (by rfl) (fun w => by go_simp; try with_reducible rfl)) hHeld ?_
  simp only [List.setIfInBounds_toArray, List.set_cons_zero, List.set_cons_succ]
  refine take_at (i := 0) 41 rfl rfl (by kernel_rfl) (by kernel_rfl) (by kernel_rfl) (fun _ _ _ h => h) (row_yields (by rfl) 23 (.tmp 5) rfl w2.heap.size rfl 23 _ (0, 0) _ Tryz.underlying23 rfl (by kernel_rfl) (fun _ h => row_kept D4.out h)) hHeld ?_
  simp only [List.setIfInBounds_toArray, List.set_cons_zero, List.set_cons_succ]
  refine take_at (i := 4) 45 rfl rfl (by kernel_rfl) (by kernel_rfl) (by kernel_rfl) (fun _ _ _ h => h) (str_yieldsR (by rfl) 9 (.tmp 44) rfl (ad.add 3) rfl _ Tryz.underlying9 (fun _ h => words_cell (texts_below X4.out h) rfl HN.out 3 (by omega))) hHeld ?_
  simp only [List.setIfInBounds_toArray, List.set_cons_zero, List.set_cons_succ]
  refine take_at (i := 5) 46 rfl rfl (by kernel_rfl) (by kernel_rfl) (by kernel_rfl) (fun _ _ _ h => h) (build_yields (by rfl) 29 #[(0, .tmp 41), (1, .tmp 42), (2, .const (.int .i64 2)), (3, .tmp 45)] rfl _ _ (HBT.out ao2 (parV (wd s 2)).length cap2) (by rw [HEV.out]; simp [Act.eval])) hHeld ?_
  simp only [List.setIfInBounds_toArray, List.set_cons_zero, List.set_cons_succ]
  refine ready_alloc 6 9 (by kernel_rfl) rfl rfl (by rfl) 29 rfl (evC noEv (.slice none 0 0)) ev_zero (hHeld.alloc hHeld.size _) ?_
  simp only [List.setIfInBounds_toArray, List.set_cons_zero, List.set_cons_succ]
  have hHeld2 := hHeld.alloc hHeld.size (.cells (evC noEv (.slice none 0 0)) 29 (0, 0))
  have A6 := Lib.hid (box_ev wD 29 noEv (.slice none 0 0))
  have LW := Lib.hid (show w4.heap.size ≤ wD.heap.size from hHeld.size)
  generalize wD.alloc (.cells (evC noEv (.slice none 0 0)) 29 (0, 0)) = W6 at *
  refine ready_store_ev 7 (by kernel_rfl) rfl rfl (by rfl) 29 (.tmp 9) (.tmp 46) rfl wD.heap.size EA noEv (.slice ao2 (parV (wd s 2)).length cap2) (.slice none 0 0) rfl rfl 29 A6.out evSize rfl (fun w7 hg hs7 => ?_)
  have hb := solo_below hHeld2 hs7 LW.out
  refine ⟨hb, ?_⟩
  have A7 := Lib.hid hg
  have X7 := Lib.hid (texts_below X4.out hb)
  have E7 := Lib.hid (evAt_kept E4.out hb)
  have B7 := Lib.hid (below_next B4.out hb)
  have V7 := Lib.hid (typ_below V4.out hb)
  have LG := Lib.hid (show w.heap.size < wD.heap.size from Nat.lt_of_lt_of_le (Array.getElem?_eq_some_iff.1 E4.out).1 LW.out)
  clear hb hg hs7 hHeld hHeld2
  refine wpAnyH_done (by kernel_rfl) ?_ _
  go_upto_region 9 with (first
    | (refine load_str_on (by rfl) 9 (.tmp 52) rfl (ad.add 4) rfl _ Tryz.underlying9 (words_cell X7.out rfl HN.out 4 (by omega)) ?_)
    | (go_at_call 47; refine (PH.out _).mono ?_; rintro x w20 ⟨rfl, hb⟩; rw [show rowV .u8 32 (parsed (wd s 4)) = .agg (row .u8 32 (parsed (wd s 4))) from rfl]; have X20 := Lib.hid (texts_below X7.out hb); have E20 := Lib.hid (evAt_kept E7.out hb); have B20 := Lib.hid (below_next B7.out hb); have A20 := Lib.hid (evAt_kept A7.out hb); have V20 := Lib.hid (typ_below V7.out hb); clear hb)
    | (refine store_new rfl 27 (.tmp 10) (.tmp 55) rfl rfl w20 _ (row .u8 32 (parsed (wd s 4))) 27 rfl rfl rfl (by rw [sumSize, row_size]) (by rw [row_size]; rfl) (row_one _ _ _) ?_; rintro w21 hg hb hlt; have S21 := Lib.hid hg; have X21 := Lib.hid (texts_below X20.out hb); have E21 := Lib.hid (evAt_kept E20.out hb); have B21 := Lib.hid (below_next B20.out hb); have A21 := Lib.hid (evAt_kept A20.out hb); have V21 := Lib.hid (typ_below V20.out hb); clear hb hg hlt))
  have LA := Lib.hid (show wD.heap.size < w20.heap.size from (Array.getElem?_eq_some_iff.1 A20.out).1)
  go_upto_region 10 with (first
    | (refine load_str_on (by rfl) 9 (.tmp 59) rfl (ad.add 5) rfl _ Tryz.underlying9 (words_cell X21.out rfl HN.out 5 (by omega)) ?_)
    | (go_at_call 48; refine (RD.out _).mono ?_; rintro x w22 ⟨rfl, hb⟩; have S22 := Lib.hid (row_kept S21.out hb); have X22 := Lib.hid (texts_below X21.out hb); have E22 := Lib.hid (evAt_kept E21.out hb); have B22 := Lib.hid (below_next B21.out hb); have A22 := Lib.hid (evAt_kept A21.out hb); have V22 := Lib.hid (typ_below V21.out hb); clear hb))
  go_upto_region 11 with (first
    | (refine store_cell rfl 3 (.tmp 64) (.const (.int .i64 1)) rfl rfl .i64 wD.heap.size 3 (evC EA (.slice ao2 (parV (wd s 2)).length cap2)) 1 29 A22.out rfl rfl (by rw [evC_size]; decide) intSize12 ?_; rintro w23 hg hs; rw [ev_kind] at hg; have A23 := Lib.hid (show EvAt w23 wD.heap.size 29 (⟨EA.r, EA.q, EA.deps, 1, EA.path, EA.sum, EA.size⟩ : Ev) (.slice ao2 (parV (wd s 2)).length cap2) from hg); have V23 := Lib.hid (typ_solo V22.out hs A22.out (by decide)); have E23 := Lib.hid (show EvAt w23 w.heap.size 29 noEv (.slice none 0 0) from (hs.block _ (by have := LG.out; omega)).trans E22.out); have B23 := Lib.hid (solo_below B22.out hs (by have := LG.out; omega)); have S23 := Lib.hid ((hs.block _ (by have := LA.out; omega)).trans S22.out); clear hg hs))
  go_upto_region 12 with (first
    | (refine load_row_on (by rfl) 27 (.tmp 10) rfl w20.heap.size rfl 27 _ (0, 0) _ S23.out Tryz.underlying27 rfl (by rw [sumSize, row_size]) ?_)
    | (refine store_in rfl 27 (.tmp 66) (.tmp 65) rfl rfl wD.heap.size 5 (evC (⟨EA.r, EA.q, EA.deps, 1, EA.path, EA.sum, EA.size⟩ : Ev) (.slice ao2 (parV (wd s 2)).length cap2)).toList (row .u8 32 (parsed (wd s 4))).toList 29 (by rw [Array.toArray_toList]; exact A23.out) rfl (by rw [Array.toArray_toList]; rfl) (by rw [sumSize]; simp [row_size]) (by simp [evC_size, row_size]) (row_ones _) ?_; rintro w24 hg hs; rw [ev_sum] at hg; have A24 := Lib.hid (show EvAt w24 wD.heap.size 29 (⟨EA.r, EA.q, EA.deps, 1, EA.path, (parsed (wd s 4)), EA.size⟩ : Ev) (.slice ao2 (parV (wd s 2)).length cap2) from hg); have V24 := Lib.hid (typ_solo V23.out hs A23.out (by decide)); have E24 := Lib.hid (show EvAt w24 w.heap.size 29 noEv (.slice none 0 0) from (hs.block _ (by have := LG.out; omega)).trans E23.out); have B24 := Lib.hid (solo_below B23.out hs (by have := LG.out; omega)); clear hg hs))
  go_upto_region 13 with (first
    | (refine store_cell rfl 3 (.tmp 68) (.tmp 67) rfl rfl .i64 wD.heap.size 37 (evC (⟨EA.r, EA.q, EA.deps, 1, EA.path, (parsed (wd s 4)), EA.size⟩ : Ev) (.slice ao2 (parV (wd s 2)).length cap2)) (readN (wd s 5) 65536) 29 A24.out rfl rfl (by rw [evC_size]; decide) intSize12 ?_; rintro w25 hg hs; rw [ev_size, show (⟨EA.r, EA.q, EA.deps, 1, EA.path, (parsed (wd s 4)), readN (wd s 5) 65536⟩ : Ev) = EF by rw [HEO.out, HEA.out]] at hg; have A25 := Lib.hid (show EvAt w25 wD.heap.size 29 EF (.slice ao2 (parV (wd s 2)).length cap2) from hg); have V25 := Lib.hid (typ_solo V24.out hs A24.out (by decide)); have E25 := Lib.hid (show EvAt w25 w.heap.size 29 noEv (.slice none 0 0) from (hs.block _ (by have := LG.out; omega)).trans E24.out); have B25 := Lib.hid (solo_below B24.out hs (by have := LG.out; omega)); clear hg hs))
  rcases CS.out with ⟨g1, g2, g3, g4⟩ | ⟨g1, g2, g3, g4⟩ | ⟨g1, g2, g3, g4⟩
  · rw [g1, g2] at LQ
    go_wp2_with (first
      | (refine load_ev_on (by rfl) 29 (.tmp 9) rfl wD.heap.size rfl A25.out Tryz.underlying29 evSize ?_)
      | (go_at_call 15; refine (LQ.out _ _ V25.out.1).mono ?_; rintro x w8 ⟨rfl, hb⟩; have A8 := Lib.hid (evAt_kept A25.out hb); have V8 := Lib.hid (typ_below V25.out hb); have E8 := Lib.hid (evAt_kept E25.out hb); have B8 := Lib.hid (below_next B25.out hb); clear hb)
      | (refine store_ev rfl 29 (.tmp 2) (.tmp 81) rfl rfl w.heap.size noEv noEv (.slice none 0 0) (.slice none 0 0) rfl (by rw [noEv_cells]; rfl) 29 E8.out evSize rfl ?_; rintro W9 hg hs; have E9 := Lib.hid hg; have B9 := Lib.hid (solo_below B8.out hs (Nat.le_refl _)); clear hg hs))
    exact bodyPost_ret (results_cell2 Tryz.results17 _ _ w.heap.size 29 _ (0, 0) _ _ rfl rfl E9.out Tryz.underlying29 rfl (by rw [evSize, evC_size])) rfl ⟨_, by rw [g3, g4]; rfl, by rw [g3]; exact dots_nil _, B9.out⟩
  · rw [g1, g2] at LQ
    go_wp2_with (first
      | (refine load_ev_on (by rfl) 29 (.tmp 9) rfl wD.heap.size rfl A25.out Tryz.underlying29 evSize ?_)
      | (go_at_call 15; refine (LQ.out _ _ V25.out.1).mono ?_; rintro x w8 ⟨rfl, hb⟩; have A8 := Lib.hid (evAt_kept A25.out hb); have V8 := Lib.hid (typ_below V25.out hb); have E8 := Lib.hid (evAt_kept E25.out hb); have B8 := Lib.hid (below_next B25.out hb); clear hb)
      | (refine load_ev_on (by rfl) 29 (.tmp 9) rfl wD.heap.size rfl A8.out Tryz.underlying29 evSize ?_)
      | (refine store_ev rfl 29 (.tmp 2) (.tmp 82) rfl rfl w.heap.size EF noEv (.slice ao2 (parV (wd s 2)).length cap2) (.slice none 0 0) rfl rfl 29 E8.out evSize rfl ?_; rintro W9 hg hs; have E9 := Lib.hid hg; have V9 := Lib.hid (typ_solo V8.out hs E8.out (by decide)); have B9 := Lib.hid (solo_below B8.out hs (Nat.le_refl _)); clear hg hs))
    exact bodyPost_ret (results_cell2 Tryz.results17 _ _ w.heap.size 29 _ (0, 0) _ _ rfl rfl E9.out Tryz.underlying29 rfl (by rw [evSize, evC_size])) rfl ⟨_, by rw [g3, g4]; rfl, by rw [g3]; rw [HDP.out]; exact V9.out.1, B9.out⟩
  · obtain ⟨l, hl⟩ : ∃ l, l = lineE EF := ⟨_, rfl⟩
    rw [← hl] at g1 g4
    rw [g1, g2] at LQ
    have s3 : (str l).toList = l := str_toList l
    have q1 : (l == s) = false := beq_eq_false_iff_ne.2 g4.1
    have q2 : (l != s) = true := bne_iff_ne.2 g4.1
    have g5 := g4.2
    clear hl g4
    go_wp2_with (first
      | (refine load_ev_on (by rfl) 29 (.tmp 9) rfl wD.heap.size rfl A25.out Tryz.underlying29 evSize ?_)
      | (go_at_call 15; refine (LQ.out _ _ V25.out.1).mono ?_; rintro x w8 ⟨rfl, hb⟩; have A8 := Lib.hid (evAt_kept A25.out hb); have V8 := Lib.hid (typ_below V25.out hb); have E8 := Lib.hid (evAt_kept E25.out hb); have B8 := Lib.hid (below_next B25.out hb); clear hb)
      | (refine store_ev rfl 29 (.tmp 2) (.tmp 81) rfl rfl w.heap.size noEv noEv (.slice none 0 0) (.slice none 0 0) rfl (by rw [noEv_cells]; rfl) 29 E8.out evSize rfl ?_; rintro W9 hg hs; have E9 := Lib.hid hg; have B9 := Lib.hid (solo_below B8.out hs (Nat.le_refl _)); clear hg hs))
    exact bodyPost_ret (results_cell2 Tryz.results17 _ _ w.heap.size 29 _ (0, 0) _ _ rfl rfl E9.out Tryz.underlying29 rfl (by rw [evSize, evC_size])) rfl ⟨_, by rw [g3, g5]; rfl, by rw [g3]; exact dots_nil _, B9.out⟩
theorem refParse_any12 (s : List UInt8) (hs : s.length < 1048576) (w : World) : Calls Tryz.prog 17 #[.string (str s)] w fun x w' => ∃ v, x = .returned (.tuple #[.agg (evC (parE s) v), .int .i64 (parEErr s)]) ∧ HasDots w' v (parE s).deps ∧ Below w.heap.size w w' := by
  by_cases h4 : (piecesB 32 s).length = 4
  · exact refParse_412 s hs _ rfl h4 w
  · by_cases h6 : (piecesB 32 s).length = 6
    · exact refParse_612 s hs _ rfl h6 w
    · exact refParse_bad12 s hs _ rfl h4 h6 w
end Go.Proofs.YteooklnejiipkaaGreatDoor
namespace Go.Proofs.YteooklnejiipkaaGreatDoor
open Go.ChangeShapes Go.WideShapes Go.ChangeAt Go.RowKit
/-- The cell of a slice of dots that lies in memory. -/
theorem open_dots_cell {H : Type} {enc : TypeId × Value → H} {P : Program} {w : World} {base : Nat} {sp : Nat → Bool} {held : Bool} {t e : TypeId} {f0 f1 : Field} {v : Value} {d : DataW H} {p : List MemPlace} {fuel : Nat}
    (ht : P.underlying t = some (.slice e)) (he : P.underlying e = some (.struct #[f0, f1])) (ce : P.cellsOf e = 2) (o0 : f0.offset = 0) (o1 : f1.offset = 1) (c0 : P.cellsOf f0.type = 1) (c1 : P.cellsOf f1.type = 1)
    (h0 : P.underlying f0.type = some (.int .i64)) (h1 : P.underlying f1.type = some (.int .i64)) (hf : DataW.trod enc P w base sp held fuel t [v] = some (d, p)) : ∃ l : List D2, HasDots w v l ∧ (l = [] ∨ ∃ elems spare, d = .slice elems spare ∧ l.length ≤ elems.length + spare.length) := by
  rcases Go.Deep.open_slice_pairs ht he ce o0 o1 c0 c1 hf with ⟨hcs, -⟩ | ⟨a, len, cap, m, n, V0, V1, D0, D1, P0, P1, hcs, _, hl, hm, hmm, hx, hrow⟩
  · simp only [List.cons.injEq, and_true] at hcs
    subst hcs
    exact ⟨[], dots_nil w, .inl rfl⟩
  · simp only [List.cons.injEq, and_true] at hcs
    subst hcs
    have hlm : len ≤ m := by rw [hmm]; split <;> omega
    have each : ∀ i, i < len → ∃ y : D2, w.cell? (a.add (i * 2)) = some (.int .i64 y.1) ∧ w.cell? (a.add (i * 2 + 1)) = some (.int .i64 y.2) := fun i hi => by
      obtain ⟨g1, g2, g3, g4⟩ := hrow i (by omega)
      obtain ⟨x, e1, -, -⟩ := DataW.trod_int h0 g3
      obtain ⟨z, e2, -, -⟩ := DataW.trod_int h1 g4
      simp only [List.cons.injEq, and_true] at e1 e2
      exact ⟨(x, z), by rw [g1, e1], by rw [g2, e2]⟩
    obtain ⟨y, hy⟩ := Go.Deep.choose_lt each
    have hus : ∀ i x, ((List.range len).map y)[i]? = some x → i < len ∧ x = y i := fun i x hx => by
      have hi : i < len := by
        have := (List.getElem?_eq_some_iff.1 hx).1
        simpa using this
      refine ⟨hi, ?_⟩
      rw [List.getElem?_map, List.getElem?_range hi] at hx
      exact (Option.some.inj hx).symm
    have hulen : ((List.range len).map y).length = len := by simp
    refine ⟨(List.range len).map y, ⟨some a, cap, by rw [hulen], (fun h => by cases h), fun ad had => ⟨by rw [hulen]; exact hl, fun j u hu => ?_⟩⟩, .inr ⟨_, _, (congrArg Prod.fst hx : _), by rw [hulen]; simp⟩⟩
    cases had
    obtain ⟨i, x, hx, hor⟩ := dotsC_inv _ j u hu
    obtain ⟨hi, rfl⟩ := hus i x hx
    rcases hor with ⟨rfl, rfl⟩ | ⟨rfl, rfl⟩
    · exact (hy i hi).1
    · exact (hy i hi).2
end Go.Proofs.YteooklnejiipkaaGreatDoor
namespace Go.Proofs.YteooklnejiipkaaGreatDoor
open Go.ChangeShapes Go.WideShapes Go.ChangeAt Go.RowKit
theorem open_digest_cells {H : Type} {enc : TypeId × Value → H} {P : Program} {w : World} {base : Nat} {sp : Nat → Bool} {held : Bool} {t e : TypeId} {cs : List Value} {x : DataW H × List MemPlace} {fuel : Nat}
    (ht : P.underlying t = some (.array 32 e)) (he : P.underlying e = some (.int .u8)) (hce : P.cellsOf e = 1) (hct : P.cellsOf t = 32) (h : DataW.trod enc P w base sp held fuel t cs = some x) :
    ∃ f : Nat → BitVec 32, (∀ i, u32 (f i) < 256) ∧ cs = (row .u8 32 f).toList := by
  obtain ⟨xs, m, -, -, hl, hxl, hel⟩ := DataW.trod_array ht h
  rw [hct] at hl
  have each : ∀ i, i < 32 → ∃ z : Int, cs[i]? = some (.int .u8 z) ∧ (Lit.int .u8 z).wf = true := fun i hi => by
    have g := hel i hi
    rw [hce, Nat.mul_one, List.getElem?_eq_getElem (by omega)] at g
    have e1 : (cs.drop i).take 1 = [cs[i]] := by rw [List.drop_eq_getElem_cons (by omega)]; rfl
    rw [e1] at g
    obtain ⟨z, ez, -, wz⟩ := DataW.trod_int he g
    simp only [List.cons.injEq, and_true] at ez
    exact ⟨z, by rw [List.getElem?_eq_getElem (by omega), ez], wz⟩
  obtain ⟨y, hy⟩ := Go.Deep.choose_lt each
  obtain ⟨f, h1, h2⟩ := bytes_fn (n := 32) (zs := (List.range 32).map y) (by simp) (fun z hz => by
    obtain ⟨i, hi, rfl⟩ := List.mem_map.1 hz
    exact (hy i (by simpa using hi)).2)
  refine ⟨f, h1, ?_⟩
  rw [← h2]
  apply List.ext_getElem?
  intro i
  by_cases hi : i < 32
  · rw [(hy i hi).1]; simp [List.getElem?_range hi]
  · rw [List.getElem?_eq_none (by omega), List.getElem?_eq_none (by simp; omega)]
set_option maxRecDepth 100000 in
set_option maxHeartbeats 4000000 in
set_option linter.unusedSimpArgs false in
theorem open_event {H : Type} {enc : TypeId × Value → H} {w : World} {base : Nat} {sp : Nat → Bool} {held : Bool} {r : Reach} {b0 : Nat} {v : Value} {d : DataW H} {p : List MemPlace} (hv : Value.okWide Tryz.prog w r b0 29 v) (h : DataW.Trod enc Tryz.prog w base sp held 29 v d p) :
    ∃ (e : Ev) (u : Value), v = .agg (evC e u) ∧ HasDots w u e.deps ∧ (∀ i, u32 (e.sum i) < 256) ∧ (Lit.int .i64 e.r).wf = true ∧ (Lit.int .i64 e.q).wf = true ∧ (Lit.int .i64 e.kind).wf = true ∧ (Lit.int .i64 e.size).wf = true ∧
      ∃ ds : List (DataW H), d = .agg ds ∧ ds[3]? = some (.lit (.string (str e.path).data.toList)) := by
  have hc0 : Tryz.prog.cellsOf 29 = 38 := by kernel_rfl
  have hc1 : Tryz.prog.cellsOf 23 = 2 := by kernel_rfl
  have hc2 : Tryz.prog.cellsOf 3 = 1 := by kernel_rfl
  have hc3 : Tryz.prog.cellsOf 2 = 1 := by kernel_rfl
  have hc4 : Tryz.prog.cellsOf 25 = 1 := by kernel_rfl
  have hc5 : Tryz.prog.cellsOf 9 = 1 := by kernel_rfl
  have hc6 : Tryz.prog.cellsOf 27 = 32 := by kernel_rfl
  have hc7 : Tryz.prog.cellsOf 5 = 1 := by kernel_rfl
  unfold Value.okWide at hv
  rw [Tryz.underlying29] at hv
  obtain ⟨cs, rfl, hsz, _⟩ := hv
  rw [hc0] at hsz
  obtain ⟨fuel, hy⟩ := h
  match cs, hsz with
  | ⟨k0 :: k1 :: k2 :: k3 :: k4 :: ks⟩, hsz =>
  obtain ⟨ys, m', _, hd, _, hl', hf⟩ := DataW.trod_struct Tryz.underlying29 hy
  match ys, hl' with
  | [y0, y1, y2, y3, y4, y5], _ =>
  have g0 := hf 0 _ rfl
  have g1 := hf 1 _ rfl
  have g2 := hf 2 _ rfl
  have g3 := hf 3 _ rfl
  have g4 := hf 4 _ rfl
  have g5 := hf 5 _ rfl
  simp [Value.cells, hc1, hc2, hc4, hc5, hc6] at g0 g1 g2 g3 g4 g5
  obtain ⟨zs, m2, _, _, _, hl2, hf2⟩ := DataW.trod_struct Tryz.underlying23 g0
  match zs, hl2 with
  | [z0, z1], _ =>
  have i0 := hf2 0 _ rfl
  have i1 := hf2 1 _ rfl
  simp [hc2, hc3] at i0 i1
  obtain ⟨a, e0, -, w0⟩ := DataW.trod_int Tryz.underlying3 i0
  obtain ⟨b, e1, -, w1⟩ := DataW.trod_int Tryz.underlying2 i1
  obtain ⟨l, hl3, -⟩ := open_dots_cell Tryz.underlying25 Tryz.underlying23 (by kernel_rfl) rfl rfl (by kernel_rfl) (by kernel_rfl) Tryz.underlying3 Tryz.underlying2 g1
  obtain ⟨kd, e2, -, w2⟩ := DataW.trod_int Tryz.underlying3 g2
  obtain ⟨x, e3, h3, -⟩ := DataW.trod_string Tryz.underlying9 g3
  obtain ⟨f, hf4, e4⟩ := open_digest_cells Tryz.underlying27 Tryz.underlying5 hc7 hc6 g4
  obtain ⟨sz, e5, -, w5⟩ := DataW.trod_int Tryz.underlying3 g5
  simp only [List.cons.injEq, and_true] at e0 e1 e2 e3
  have hlen : ks.length = 33 := by simpa using hsz
  have hks : ks = (row .u8 32 f).toList ++ [.int .i64 sz] := by
    rw [← e4, ← e5, List.take_of_length_le (l := ks.drop 32) (by rw [List.length_drop]; omega), List.take_append_drop]
  have hx : str x.data.toList = x := by unfold str; rfl
  refine ⟨⟨a, b, l, kd, x.data.toList, f, sz⟩, k2, ?_, hl3, hf4, w0, w1, w2, w5, [y0.1, y1.1, y2.1, y3.1, y4.1, y5.1], ?_, ?_⟩
  · rw [e0, e1, e2, e3, hks]
    refine congrArg Value.agg ?_
    apply Array.toList_inj.1
    simp only [evC, hx, Array.toList_append]
    rfl
  · exact (Prod.mk.inj hd).1
  · show some y3.1 = _
    rw [h3, hx]
theorem i64_of12 {a : Int} (h : (Lit.int .i64 a).wf = true) : -9223372036854775808 ≤ a ∧ a < 9223372036854775808 := by
  simp [Lit.wf, IntKind.min, IntKind.max, IntKind.signed, IntKind.bits] at h; omega
end Go.Proofs.YteooklnejiipkaaGreatDoor
namespace Go.Proofs.YteooklnejiipkaaGreatDoor
/-- What a struct's parts weigh is weighed with it. -/
theorem sized_parts {H : Type} {P : Program} {ts : List TypeId} {ds : List (DataW H)} (h : (DataW.weightsEach P ts ds).all (· ≤ reachBytes) = true) {j : Nat} {t : TypeId} {fs : Array Field} {parts : List (DataW H)} (ht : ts[j]? = some t) (hd : ds[j]? = some (.agg parts)) (hu : P.underlying t = some (.struct fs)) :
    (DataW.weightsEach P (fs.toList.map (·.type)) parts).all (· ≤ reachBytes) = true := by
  rw [List.all_eq_true]
  intro n hn
  exact List.all_eq_true.1 h n (DataW.weights_mem_each ht hd n (by simp only [DataW.weights, hu]; exact hn))
end Go.Proofs.YteooklnejiipkaaGreatDoor
