/-
What package dot owes, as contracts.
-/
import Derived.Test.YtfechljjkblkhaaDoorRef09Parse
namespace Go.Proofs.YtfechljjkblkhaaDoor
open Go.RowKit
/-- A number of 64 bits. -/
def I64 (a : Int) : Prop := -9223372036854775808 ≤ a ∧ a < 9223372036854775808
structure DotFace : Prop where
  compare : ∀ w (r q r' q' : Int), I64 r → I64 q → I64 r' → I64 q' → Calls Tryd.prog 12 #[.agg #[.int .i64 r, .int .i64 q], .agg #[.int .i64 r', .int .i64 q']] w fun e w' => e = .returned (.int .i64 (cmpD r q r' q')) ∧ Below w.heap.size w w'
  may : ∀ w (r q : Int), I64 r → I64 q → Calls Tryd.prog 14 #[.agg #[.int .i64 r, .int .i64 q]] w fun e w' => e = .returned (.bool (mayD r q)) ∧ Below w.heap.size w w'
  next : ∀ w (r q : Int), I64 r → I64 q → Calls Tryd.prog 10 #[.agg #[.int .i64 r, .int .i64 q]] w fun e w' => e = .returned (.tuple #[.agg #[.int .i64 (nextR r q), .int .i64 (nextQ r q)], .int .i64 (nextErr r q)]) ∧ Below w.heap.size w w'
  text : ∀ w (r q : Int), I64 r → I64 q → PowTab w → Calls Tryd.prog 18 #[.agg #[.int .i64 r, .int .i64 q]] w fun e w' => e = .returned (.string (str (textD r q))) ∧ Below w.heap.size w w'
  parse : ∀ w (s : List UInt8), s.length < 1152921504606846976 → Calls Tryd.prog 16 #[.string (str s)] w fun e w' => e = .returned (.tuple #[.agg #[.int .i64 (parR s), .int .i64 (parQ s)], .int .i64 (parErr s)]) ∧ Below w.heap.size w w'
theorem awake_nums : parR [51, 58, 49, 55] = 3 ∧ parQ [51, 58, 49, 55] = 17 ∧ parErr [51, 58, 49, 55] = 0 ∧ textD 3 17 = [51, 58, 49, 55] ∧ nextR 3 0 = 3 ∧ nextQ 3 0 = 1 ∧ nextErr 3 0 = 0 := by decide +kernel
theorem dot_built1 (r : Int) : Tryd.prog.built 23 [(0, .int .i64 r)] = some #[.int .i64 r, .int .i64 0] := by rfl
set_option maxRecDepth 100000 in
set_option maxHeartbeats 8000000 in
theorem awake9_any (F : DotFace) (w : World) (hT : PowTab w) : Calls Tryd.prog 9 #[] w fun e w' => e = .returned (.bool true) ∧ Below w.heap.size w w' := by
  obtain ⟨a1, a2, a3, a4, a5, a6, a7⟩ := awake_nums
  have HT := Lib.hid hT
  have P1 := Lib.hid (show ∀ w, Calls Tryd.prog 16 #[.string ⟨#[51, 58, 49, 55]⟩] w fun e w' => e = .returned (.tuple #[.agg #[.int .i64 3, .int .i64 17], .int .i64 0]) ∧ Below w.heap.size w w' from fun w => by
    have h := F.parse w [51, 58, 49, 55] (by decide); rwa [a1, a2, a3] at h)
  have N1 := Lib.hid (show ∀ w, Calls Tryd.prog 10 #[.agg #[.int .i64 3, .int .i64 0]] w fun e w' => e = .returned (.tuple #[.agg #[.int .i64 3, .int .i64 1], .int .i64 0]) ∧ Below w.heap.size w w' from fun w => by
    have h := F.next w 3 0 (by unfold I64; omega) (by unfold I64; omega); rwa [a5, a6, a7] at h)
  have T1 := Lib.hid (show ∀ w, PowTab w → Calls Tryd.prog 18 #[.agg #[.int .i64 3, .int .i64 17]] w fun e w' => e = .returned (.string (str [51, 58, 49, 55])) ∧ Below w.heap.size w w' from fun w hT => by
    have h := F.text w 3 17 (by unfold I64; omega) (by unfold I64; omega) hT; rwa [a4] at h)
  have s1 : (str [51, 58, 49, 55]).toList = [51, 58, 49, 55] := str_toList _
  have s2 : (ByteArray.mk #[51, 58, 49, 55]).toList = [51, 58, 49, 55] := ByteArray.toList_mk _
  clear hT a1 a2 a3 a4 a5 a6 a7
  go_enter Tryd.func9, Tryd.ntmps9
  go_upto_region 2 with (first | (go_at_call 16; refine (P1.out _).mono ?_; rintro e w1 ⟨rfl, hb⟩; have B1 := Lib.hid hb; clear hb))
  have H1 := Lib.hid (heap_last w1 (.cells #[.int .i64 3, .int .i64 17] 23 (0, 0)))
  have C1 := Lib.hid (B1.out.alloc B1.out.size (.cells #[.int .i64 3, .int .i64 17] 23 (0, 0)))
  generalize w1.alloc (.cells #[.int .i64 3, .int .i64 17] 23 (0, 0)) = W1 at *
  go_upto_region 3 with (first
    | (refine build_on (by rfl) 23 #[(0, .const (.int .i64 3))] rfl _ _ (dot_built1 _) (by simp [Act.eval]) ?_)
    | (go_at_call 10; refine (N1.out _).mono ?_; rintro e w2 ⟨rfl, hb⟩; have G1 := Lib.hid (row_kept H1.out hb); have B2 := Lib.hid (below_next C1.out hb); clear hb))
  have H3 := Lib.hid (heap_last w2 (.cells #[.int .i64 3, .int .i64 1] 23 (0, 0)))
  have G3 := Lib.hid (row_kept G1.out ((Below.refl w2.heap.size w2).alloc (Nat.le_refl _) (.cells #[.int .i64 3, .int .i64 1] 23 (0, 0))))
  have C3 := Lib.hid (B2.out.alloc B2.out.size (.cells #[.int .i64 3, .int .i64 1] 23 (0, 0)))
  generalize w2.alloc (.cells #[.int .i64 3, .int .i64 1] 23 (0, 0)) = W3 at *
  go_wp2_with (first
    | (refine load_row_on (by rfl) 23 (.tmp 1) rfl w1.heap.size rfl 23 _ (0, 0) _ G3.out Tryd.underlying23 rfl (by kernel_rfl) ?_)
    | (refine load_row_on (by rfl) 23 (.tmp 3) rfl w2.heap.size rfl 23 _ (0, 0) _ H3.out Tryd.underlying23 rfl (by kernel_rfl) ?_)
    | (refine build_on (by rfl) 23 #[(0, .const (.int .i64 3)), (1, .const (.int .i64 17))] rfl _ _ (dot_built _ _) (by simp [Act.eval]) ?_)
    | (refine build_on (by rfl) 23 #[(0, .const (.int .i64 3)), (1, .const (.int .i64 1))] rfl _ _ (dot_built _ _) (by simp [Act.eval]) ?_)
    | (go_at_call 18; refine (T1.out _ (powTab_below HT.out C3.out)).mono ?_; rintro e w4 ⟨rfl, hb⟩; have B4 := Lib.hid (below_next C3.out hb); clear hb))
  go_ret
  exact ⟨rfl, B4.out⟩
end Go.Proofs.YtfechljjkblkhaaDoor
