/-
Two lists of texts that are the same are told to be so.
-/
import Derived.Test.YtjpmnobhkaebjaaDoorPathFace
import Derived.Test.YtjpmnobhkaebjaaDoorRef06Copy
namespace Go.Proofs.YtjpmnobhkaebjaaDoor
open Go.RowKit
set_option maxHeartbeats 4000000 in
theorem texts_same (ls : List (List UInt8)) (hl : ls.length < 4611686018427387904) (v1 v2 : Value) (w : World) (h1 : HasTexts w v1 ls) (h2 : HasTexts w v2 ls) :
    Calls Tryd.prog 20 #[v1, v2] w fun e w' => e = .returned (.bool true) ∧ Below w.heap.size w w' := by
  obtain ⟨n, hn⟩ : ∃ n, ls.length = n := ⟨_, rfl⟩
  have T1 := Lib.hid h1
  have T2 := Lib.hid h2
  have HN := Lib.hid hn
  obtain ⟨ao1, c1, rfl⟩ := texts_shape h1 n hn
  obtain ⟨ao2, c2, rfl⟩ := texts_shape h2 n hn
  rw [hn] at hl
  clear h1 h2 hn
  go_enter Tryd.func20, Tryd.ntmps20
  go_wp2
  go_loopw [5] (fun i wr => Below w.heap.size w wr ∧ ∃ k : Nat, k ≤ n ∧ i = .int .i64 k) (fun i _ => n - (intOf i).toNat)
  case atStart => exact ⟨Below.refl _ _, 0, by omega, rfl⟩
  case round =>
    obtain ⟨hb, k, hk, rfl⟩ := hrel
    have HB := Lib.hid hb
    by_cases hkn : k < n
    · obtain ⟨l, hl'⟩ : ∃ l, ls[k]? = some l := ⟨ls[k]'(by have := HN.out; omega), List.getElem?_eq_getElem _⟩
      obtain ⟨a1, c1', e1, d1⟩ := texts_at (texts_below T1.out hb) n k HN.out hkn l hl'
      cases e1
      obtain ⟨a2, c2', e2, d2⟩ := texts_at (texts_below T2.out hb) n k HN.out hkn l hl'
      cases e2
      have q0 : (k : Int) < (n : Int) := by omega
      clear hl' hb
      go_wp2
      go_quiet (fail)
      go_wp2
      go_roundw
      case rel => exact ⟨below_draws HB.out nq, k + 1, by omega, by go_num⟩
      case measure => simp [intOf]; omega
    · obtain rfl : k = n := by omega
      go_wp2
      go_ret
      exact ⟨rfl, HB.out⟩
end Go.Proofs.YtjpmnobhkaebjaaDoor
