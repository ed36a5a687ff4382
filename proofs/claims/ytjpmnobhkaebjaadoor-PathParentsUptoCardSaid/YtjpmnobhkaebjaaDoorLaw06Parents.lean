/-
The walk of the statement on a path's parents.
-/
import Derived.Test.YtjpmnobhkaebjaaDoorPathFace
namespace Go.Proofs.YtjpmnobhkaebjaaDoor
open Go.RowKit
theorem texts_cells {w : World} {ao : Option Addr} {n cap : Nat} {ls : List (List UInt8)} (h : HasTexts w (.slice ao n cap) ls) (k : Nat) (l : List UInt8) (hl : ls[k]? = some l) :
    ∃ ad, ao = some ad ∧ ∀ w', Below w.heap.size w w' → w'.cell? (ad.add k) = some (.string (str l)) := by
  obtain ⟨ao', cap', e, hnil, hcs⟩ := h
  cases e
  cases ao with
  | none => obtain ⟨hl', _⟩ := hnil rfl; subst hl'; simp at hl
  | some ad =>
    refine ⟨ad, rfl, fun w' hb => ?_⟩
    have h1 := (hcs ad rfl).2 k (.string (str l)) (by simp only [textsL, List.getElem?_map, hl, Option.map])
    exact (World.cell?_of_block (hb.block (ad.add k).block (World.block_lt_of_cell? w _ h1))).trans h1
theorem par_len {s : List UInt8} {k : Nat} {p : List UInt8} (h : (parL s)[k]? = some p) : p.length < s.length := by
  have := (par_under s k p h).1; omega
set_option maxRecDepth 100000 in
set_option maxHeartbeats 8000000 in
theorem pathParents_walk (F : PathFace) (s : List UInt8) (hs : s.length < 1099511627776) (w : World) (hT : PowTab w) :
    Calls Tryd.prog 8 #[.string (str s)] w fun e w' => e = .returned (.bool true) ∧ Below w.heap.size w w' := by
  have AW := Lib.hid (awake6_any F w hT)
  have P1 := Lib.hid (fun w => F.parents w s hs)
  have M1 := Lib.hid (fun w => F.may w s (by omega))
  have HS := Lib.hid hs
  obtain ⟨n, hn⟩ : ∃ n, (parL s).length = n := ⟨_, rfl⟩
  have hn40 : n < 1099511627776 := by have := parTo_length s s.length; rw [parL] at hn; omega
  have HN := Lib.hid hn
  clear hs hT hn
  go_enter Tryd.func8, Tryd.ntmps8
  go_wp2_with (first
    | (go_at_call 9; refine AW.out.mono ?_; rintro e w1 ⟨rfl, hb⟩; have H1 := Lib.hid hb; clear hb)
    | (go_at_call 21; refine (P1.out _).mono ?_; rintro e w2 ⟨v, rfl, ht, hb⟩; obtain ⟨ao, cap, rfl⟩ := texts_shape ht n HN.out; have HT2 := Lib.hid ht; have H2 := Lib.hid (below_next H1.out hb); clear ht hb H1))
  go_loopw [5] (fun i wr => Below w2.heap.size w2 wr ∧ ∃ k : Nat, k ≤ n ∧ i = .int .i64 k) (fun i _ => n - (intOf i).toNat)
  case atStart => exact ⟨Below.refl _ _, 0, by omega, rfl⟩
  case round =>
    obtain ⟨hb, k, hk, rfl⟩ := hrel
    have HB := Lib.hid hb
    clear hb
    by_cases hkn : k < n
    · obtain ⟨p, hp⟩ : ∃ p, (parL s)[k]? = some p := ⟨(parL s)[k]'(by have := HN.out; omega), List.getElem?_eq_getElem _⟩
      obtain ⟨ad, rfl, hcell⟩ := texts_cells HT2.out k p hp
      have HC := Lib.hid hcell
      have hpl := par_len hp
      have M2 := Lib.hid (fun w => F.may w p (by have := HS.out; omega))
      have P2 := Lib.hid (fun w => F.parents w p (by have := HS.out; omega))
      have HCN := Lib.hid (par_count s k p hp)
      have HM := Lib.hid (par_may s k p hp)
      have q0 : (k : Int) < (n : Int) := by omega
      clear hcell hpl hp
      cases hm : mayP s with
      | true =>
        have M1' := Lib.hid (fun w => by have := M1.out w; rwa [hm] at this)
        have M2' := Lib.hid (fun w => by have := M2.out w; rwa [HM.out hm] at this)
        clear hm M1 M2
        go_wp2_with (first
          | (go_at_call 14; with_reducible refine (M1'.out wr).mono ?_; rintro e w3 ⟨rfl, hb⟩; have H3 := Lib.hid (below_next HB.out hb); have d3 := HC.out w3 H3.out; clear hb)
          | (go_at_call 14; with_reducible refine (M2'.out w3).mono ?_; rintro e w4 ⟨rfl, hb⟩; have H4 := Lib.hid (below_next H3.out hb); have d4 := HC.out w4 H4.out; clear hb d3)
          | (go_at_call 21; refine (P2.out _).mono ?_; rintro e w5 ⟨v5, rfl, ht, hb⟩; obtain ⟨ao5, cap5, rfl⟩ := texts_shape ht k HCN.out; have H5 := Lib.hid (below_next H4.out hb); clear ht hb d4))
        go_roundw
        case rel => exact ⟨H5.out, k + 1, by omega, by go_num⟩
        case measure => simp [intOf]; omega
      | false =>
        have M1' := Lib.hid (fun w => by have := M1.out w; rwa [hm] at this)
        clear hm M1 M2
        go_wp2_with (first
          | (go_at_call 14; with_reducible refine (M1'.out wr).mono ?_; rintro e w3 ⟨rfl, hb⟩; have H3 := Lib.hid (below_next HB.out hb); have d3 := HC.out w3 H3.out; clear hb)
          | (go_at_call 21; refine (P2.out _).mono ?_; rintro e w5 ⟨v5, rfl, ht, hb⟩; obtain ⟨ao5, cap5, rfl⟩ := texts_shape ht k HCN.out; have H5 := Lib.hid (below_next H3.out hb); clear ht hb d3))
        go_roundw
        case rel => exact ⟨H5.out, k + 1, by omega, by go_num⟩
        case measure => simp [intOf]; omega
    · obtain rfl : k = n := by omega
      go_wp2
      go_ret
      exact ⟨rfl, below_next H2.out HB.out⟩
end Go.Proofs.YtjpmnobhkaebjaaDoor
