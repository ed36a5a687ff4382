/-
What the document's own answers for layer 6 return: what lies below, parents, copies.
-/
import Derived.Test.YtjpmnobhkaebjaaDoorRef06Own
import Derived.Test.YtjpmnobhkaebjaaDoorTexts
import Derived.Test.YtjpmnobhkaebjaaDoorRef04Num
namespace Go.Proofs.YtjpmnobhkaebjaaDoor
open Go.RowKit
set_option maxHeartbeats 4000000 in
theorem refUnder_any (s d : List UInt8) (hd : d.length < 1152921504606846976) (w : World) : Calls Tryd.prog 19 #[.string (str s), .string (str d)] w fun e w' => e = .returned (.bool (underP s d)) ∧ w = w' := by
  obtain ⟨n, hn⟩ : ∃ n, n = s.length := ⟨_, rfl⟩
  obtain ⟨m, hm⟩ : ∃ m, m = d.length := ⟨_, rfl⟩
  have hsz : (str s).size = n := by rw [str_size, hn]
  have hdz : (str d).size = m := by rw [str_size, hm]
  have hU := Lib.hid (show underP s d = (decide (m + 1 < n) && (s.take m == d && s.getD m 0 == 47)) by rw [underP, ← hn, ← hm])
  obtain ⟨m1, hm1⟩ : ∃ m1, m1 = m + 1 := ⟨_, rfl⟩
  have e1 : (m : Int) + 1 = (m1 : Int) := by omega
  have e2 := wrap_small6 m1 (by omega)
  have hld : (str d).toList = d := str_toList d
  by_cases hlt : m1 < n
  · have t1 : decide ((m1 : Int) < (n : Int)) = true := decide_eq_true (by omega)
    have hlt2 : (str (s.take m)).toList = s.take m := str_toList _
    obtain ⟨c, hc⟩ : ∃ c, s[m]? = some c := ⟨s[m]'(by omega), List.getElem?_eq_getElem _⟩
    obtain ⟨x, hx⟩ : ∃ x, c.toNat = x := ⟨_, rfl⟩
    have i1 : ∀ h : m < (str s).size, ((str s)[m]'h).toNat = x := fun h => by
      obtain ⟨h', e⟩ := List.getElem?_eq_some_iff.1 hc
      rw [← hx, ← e]; simp [str, ByteArray.getElem_eq_getElem_data]
    have s1 : (str s).extract 0 m = str (s.take m) := by unfold str; rw [ByteArray.extract_mk]; simp
    have q0 : (m1 : Int) < (n : Int) := by omega
    have h47 : (s.getD m 0 == 47) = ((x : Int) == 47) := by
      rw [List.getD_eq_getElem?_getD, hc, Option.getD_some, Bool.eq_iff_iff, beq_iff_eq, beq_iff_eq]
      constructor
      · intro h; subst h; rw [← hx]; rfl
      · intro h; exact UInt8.toNat_inj.1 (by rw [hx, show (47 : UInt8).toNat = 47 from rfl]; omega)
    have q1 : (m : Int) < (n : Int) := by omega
    have HR := Lib.hid (show underP s d = (s.take m == d && ((x : Int) == 47)) by rw [hU.out, decide_eq_true (show m + 1 < n by omega), Bool.true_and, h47])
    have q2 : ¬ (n : Int) < (m : Int) := by omega
    clear hn hm hm1 hlt hd hc hx h47
    cases ht : (s.take m == d) with
    | true =>
      rw [ht] at HR
      go_enter Tryd.func19, Tryd.ntmps19
      go_wp2
      go_ret
      exact ⟨by rw [HR.out]; rfl, rfl⟩
    | false =>
      rw [ht] at HR
      go_enter Tryd.func19, Tryd.ntmps19
      go_wp2
      go_ret
      exact ⟨by rw [HR.out]; rfl, rfl⟩
  · have t1 : decide ((m1 : Int) < (n : Int)) = false := decide_eq_false (by omega)
    have q0 : ¬ (m1 : Int) < (n : Int) := by omega
    have HR := Lib.hid (show underP s d = false by rw [hU.out, decide_eq_false (show ¬ m + 1 < n by omega)]; rfl)
    clear hn hm hm1 hlt hd
    go_enter Tryd.func19, Tryd.ntmps19
    go_wp2
    go_ret
    exact ⟨by rw [HR.out]; rfl, rfl⟩
theorem infoString : (Tryd.prog.info? 9).map (fun i => (i.zero, i.size, i.bytes)) = some (some (.string ByteArray.empty), 1, 16) := by kernel_rfl
set_option maxHeartbeats 4000000 in
theorem refParents_any (s : List UInt8) (hs : s.length < 1099511627776) (w : World) : Calls Tryd.prog 22 #[.string (str s)] w fun e w' => ∃ v, e = .returned v ∧ HasTexts w' v (parL s) ∧ Below w.heap.size w w' := by
  obtain ⟨i0, hi, hz0, hz1, hz2⟩ := info_parts infoString
  obtain ⟨n, hn⟩ : ∃ n, n = s.length := ⟨_, rfl⟩
  have HN := Lib.hid hn
  have hsz : (str s).size = n := by rw [str_size, hn]
  rw [← hn] at hs
  clear hn
  go_enter Tryd.func22, Tryd.ntmps22
  go_wp2
  go_loopw [3, 4] (fun v i wr => ∃ k : Nat, k ≤ n ∧ i = .int .i64 k ∧ wr.ownsRow w.heap.size 9 1 v (parTo s k).length (textsL (parTo s k)) ∧ w.heap.size ≤ wr.heap.size ∧ Below w.heap.size w wr) (fun _ i _ => n - (intOf i).toNat)
  case atStart => exact ⟨0, by omega, rfl, ⟨rfl, .inl ⟨rfl, rfl⟩⟩, Nat.le_refl _, Below.refl _ _⟩
  case round =>
    obtain ⟨k, hk, rfl, hown, hsize, hb⟩ := hrel
    obtain ⟨ao, cap, rfl⟩ := own_slice hown
    have HO := Lib.hid hown
    have HB := Lib.hid hb
    clear hown hb
    by_cases hkn : k < n
    · obtain ⟨c, hc⟩ : ∃ c, s[k]? = some c := ⟨s[k]'(by have := HN.out; omega), List.getElem?_eq_getElem _⟩
      have i1 := fun w => index_str (P := Tryd.prog) w s .i64 k c hc Tryd.underlying9
      obtain ⟨x, hx⟩ : ∃ x, c.toNat = x := ⟨_, rfl⟩
      rw [hx] at i1
      have HX := Lib.hid (And.intro (show s.getD k 0 = c by rw [List.getD_eq_getElem?_getD, hc]; rfl) hx)
      have q1 : (k : Int) < (n : Int) := by omega
      clear hc hx
      by_cases h47 : x = 47
      · subst h47
        have hs47 : s.getD k 0 = 47 := by rw [HX.out.1]; exact UInt8.toNat_inj.1 HX.out.2
        have HE := Lib.hid (parTo_slash s k hs47)
        have s1 := fun w => slice_to6 (P := Tryd.prog) w 9 s k (by rw [← HN.out]; exact hk) Tryd.underlying9
        have hpl := parTo_length s k
        have HL := Lib.hid (show (parTo s k).length + 1 ≤ 8796093022208 by omega)
        clear hs47 hpl
        go_wp2_with (first
          | (at_builtin; refine append_text rfl (.tmp 15) (.tmp 19) 38 rfl w.heap.size 9 i0 Tryd.underlying38 hi hz0 hz1 hz2 _ (parTo s k) (s.take k) rfl (HO.out.alloc _) ⟨wr.heap.size, 0, none⟩ 1 rfl (by rw [cell_of_row _ _ 0 _ _ _ (heap_last wr _)]; rfl) HL.out (by simp; omega) ?_; intro v1 w1 ho hg; have HO1 := Lib.hid ho; have HB1 := Lib.hid (below_grown (HB.out.alloc hsize _) hg (by simp; omega) (fun j hj => (HO.out.lt j hj).1)); have HS1 := Lib.hid HB1.out.size; clear ho hg))
        go_roundw
        case rel => exact ⟨k + 1, by omega, by go_num, by rw [HE.out]; exact HO1.out, HS1.out, HB1.out⟩
        case measure => simp [intOf]; omega
      · have t2 : ((x : Int) == 47) = false := beq_eq_false_iff_ne.2 (by omega)
        have HD := Lib.hid (parTo_other s k (show s.getD k 0 ≠ 47 from fun e => by rw [HX.out.1] at e; rw [e] at HX; exact h47 HX.out.2.symm))
        clear h47
        go_wp2
        go_roundw
        case rel => exact ⟨k + 1, by omega, by go_num, by rw [HD.out]; exact HO.out, hsize, HB.out⟩
        case measure => simp [intOf]; omega
    · obtain rfl : k = n := by omega
      have HT := Lib.hid (show HasTexts wr (.slice ao (parTo s k).length cap) (parL s) from by rw [parL, ← HN.out]; exact texts_of_own HO.out)
      clear HO
      go_wp2
      go_ret
      exact ⟨_, rfl, HT.out, HB.out⟩
end Go.Proofs.YtjpmnobhkaebjaaDoor
