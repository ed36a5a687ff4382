/-
What the document's own answers for layer 7 return: number, text.
-/
import Derived.Test.YtbjekhhefepnlaaDoorHeader
import Derived.Test.YtbjekhhefepnlaaDoorRef05Get
import Derived.Test.YtbjekhhefepnlaaDoorRef06Own
import Derived.Test.YtbjekhhefepnlaaDoorOctalFace
namespace Go.Proofs.YtbjekhhefepnlaaDoor
open Go.RowKit
theorem putT_le (n w : Int) : (putT n w).length ≤ 255 := by
  by_cases h : putErr n w = 0
  · rw [(get_put n w h).2.2]; have := ((putErr_ok n w).1 h).2.1; omega
  · rw [putT, if_neg h]; exact Nat.zero_le _
theorem fieldT_le (s : List UInt8) (w : Int) : (fieldT s w).length ≤ 255 := by
  by_cases h : fieldErr s w = 0
  · rw [fieldT_length s w h]; have := ((fieldErr_ok s w).1 h).2.1; omega
  · rw [fieldT, if_neg h]; exact Nat.zero_le _
theorem len_step {a b : List UInt8} {k : Nat} (ha : a.length ≤ k) (hb : b.length ≤ 255) : (a ++ b).length ≤ k + 255 := by rw [List.length_append]; omega
theorem ownsB_base {w : World} {base base' : Nat} {e : TypeId} {v : Value} {l : List UInt8} (h : OwnsB w base e v l) (hb : base' ≤ base) : OwnsB w base' e v l := by
  obtain ⟨g, cap, cur, fr, e1, h1, rest⟩ := h
  exact ⟨g, cap, cur, fr, e1, Nat.le_trans hb h1, rest⟩
set_option maxHeartbeats 4000000 in
theorem refNumber_any (n width : Int) (hn1 : -9223372036854775808 ≤ n) (hn2 : n < 9223372036854775808) (b : List UInt8) (hb : b.length ≤ 100000) (v : Value) (w : World) (hv : HasText w v b) :
    Calls Tryd.prog 22 #[v, .int .i64 n, .int .i64 width] w fun e w' => ∃ v', e = .returned v' ∧ OwnsB w' w.heap.size 5 v' (b ++ putT n width) ∧ Below w.heap.size w w' := by
  obtain ⟨i0, hi, hz0, hz1, hz2⟩ := info_parts infoByte
  have P := Lib.hid (fun w => refPut_any n width hn1 hn2 w)
  have HL := Lib.hid (And.intro hb (putT_le n width))
  have HV := Lib.hid hv
  obtain ⟨ao, cap, rfl⟩ := text_shape hv _ rfl
  generalize putT n width = T at *
  generalize putErr n width = E at *
  clear hb hv hn1 hn2
  go_enter Tryd.func22, Tryd.ntmps22
  go_wp2_with (first
    | (go_at_call 37; refine (P.out _).mono ?_; rintro e w1 ⟨v1, rfl, ht, hbl⟩; obtain ⟨ao1, cap1, rfl⟩ := text_shape ht _ rfl; have HT := Lib.hid ht; have HB := Lib.hid hbl; have HV1 := Lib.hid (text_below HV.out hbl); clear ht hbl)
    | (at_builtin; refine append_owns_list rfl (.tmp 16) (.tmp 17) 22 rfl w.heap.size 5 i0 Tryd.underlying22 hi hz0 hz1 hz2 _ [] b rfl (ownsB_nil w1 5 w.heap.size HB.out.size) _ rfl (text_below HV1.out ((Below.refl _ _).alloc (Nat.le_refl _) _)) (by have := HL.out.1; simp; omega) (by have := HB.out.size; simp; omega) ?_; intro v2 w2 ho2 hg2; have HB2 := Lib.hid (below_grown (HB.out.alloc HB.out.size _) hg2 (by have := HB.out.size; simp; omega) (fun k hk => (ownsB_lt (ownsB_nil w1 5 w.heap.size HB.out.size) k hk).1)); have HT2 := Lib.hid (text_below HT.out (below_grown ((Below.refl _ _).alloc (Nat.le_refl _) _) hg2 (by simp) (fun k hk => (ownsB_lt (ownsB_nil w1 5 w1.heap.size (Nat.le_refl _)) k hk).1))); have HO2 := Lib.hid ho2; clear ho2 hg2)
    | (at_builtin; refine append_owns_list rfl (.tmp 19) (.tmp 20) 22 rfl w.heap.size 5 i0 Tryd.underlying22 hi hz0 hz1 hz2 _ ([] ++ b) T rfl HO2.out _ rfl HT2.out (by have := HL.out; simp; omega) HB2.out.size ?_; intro v3 w3 ho3 hg3; have HB3 := Lib.hid (below_grown HB2.out hg3 HB2.out.size (fun k hk => (ownsB_lt HO2.out k hk).1)); have HO3 := Lib.hid ho3; clear ho3 hg3))
  go_ret
  exact ⟨_, rfl, by have h := HO3.out; rwa [List.nil_append] at h, HB3.out⟩
set_option maxHeartbeats 4000000 in
theorem refTextF_any (s : List UInt8) (hs : s.length < 4611686018427387904) (width : Int) (b : List UInt8) (hb : b.length ≤ 100000) (v : Value) (w : World) (hv : HasText w v b) :
    Calls Tryd.prog 21 #[v, .string (str s), .int .i64 width] w fun e w' => ∃ v', e = .returned v' ∧ OwnsB w' w.heap.size 5 v' (b ++ fieldT s width) ∧ Below w.heap.size w w' := by
  obtain ⟨i0, hi, hz0, hz1, hz2⟩ := info_parts infoByte
  have P := Lib.hid (fun w => refField_any s hs width w)
  have HL := Lib.hid (And.intro hb (fieldT_le s width))
  have HV := Lib.hid hv
  obtain ⟨ao, cap, rfl⟩ := text_shape hv _ rfl
  generalize fieldT s width = T at *
  generalize fieldErr s width = E at *
  clear hb hv
  go_enter Tryd.func21, Tryd.ntmps21
  go_wp2_with (first
    | (go_at_call 36; refine (P.out _).mono ?_; rintro e w1 ⟨v1, rfl, ht, hbl⟩; obtain ⟨ao1, cap1, rfl⟩ := text_shape ht _ rfl; have HT := Lib.hid ht; have HB := Lib.hid hbl; have HV1 := Lib.hid (text_below HV.out hbl); clear ht hbl)
    | (at_builtin; refine append_owns_list rfl (.tmp 16) (.tmp 17) 22 rfl w.heap.size 5 i0 Tryd.underlying22 hi hz0 hz1 hz2 _ [] b rfl (ownsB_nil w1 5 w.heap.size HB.out.size) _ rfl (text_below HV1.out ((Below.refl _ _).alloc (Nat.le_refl _) _)) (by have := HL.out.1; simp; omega) (by have := HB.out.size; simp; omega) ?_; intro v2 w2 ho2 hg2; have HB2 := Lib.hid (below_grown (HB.out.alloc HB.out.size _) hg2 (by have := HB.out.size; simp; omega) (fun k hk => (ownsB_lt (ownsB_nil w1 5 w.heap.size HB.out.size) k hk).1)); have HT2 := Lib.hid (text_below HT.out (below_grown ((Below.refl _ _).alloc (Nat.le_refl _) _) hg2 (by simp) (fun k hk => (ownsB_lt (ownsB_nil w1 5 w1.heap.size (Nat.le_refl _)) k hk).1))); have HO2 := Lib.hid ho2; clear ho2 hg2)
    | (at_builtin; refine append_owns_list rfl (.tmp 19) (.tmp 20) 22 rfl w.heap.size 5 i0 Tryd.underlying22 hi hz0 hz1 hz2 _ ([] ++ b) T rfl HO2.out _ rfl HT2.out (by have := HL.out; simp; omega) HB2.out.size ?_; intro v3 w3 ho3 hg3; have HB3 := Lib.hid (below_grown HB2.out hg3 HB2.out.size (fun k hk => (ownsB_lt HO2.out k hk).1)); have HO3 := Lib.hid ho3; clear ho3 hg3))
  go_ret
  exact ⟨_, rfl, by have h := HO3.out; rwa [List.nil_append] at h, HB3.out⟩
end Go.Proofs.YtbjekhhefepnlaaDoor
