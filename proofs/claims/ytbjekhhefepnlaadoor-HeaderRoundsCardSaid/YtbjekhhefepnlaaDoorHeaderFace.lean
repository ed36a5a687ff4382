/-
What package header owes, as contracts; the walk that all statements of layer 7 begin with.
-/
import Derived.Test.YtbjekhhefepnlaaDoorHeader
import Derived.Test.YtbjekhhefepnlaaDoorOctalFace
import Derived.Test.YtbjekhhefepnlaaDoorRef07Get
namespace Go.Proofs.YtbjekhhefepnlaaDoor
open Go.RowKit
/-- A slice of bytes that may be written: its block lies behind what was there, and no byte of it bears a mark. -/
def OwnText (w : World) (base : Nat) (v : Value) (l : List UInt8) : Prop :=
  HasText w v l ∧ ∀ ad n cap, v = .slice (some ad) n cap → base ≤ ad.block ∧ ad.spot = none ∧ ∀ k, k < l.length → w.frozen? (ad.add k) = false
structure HeaderFace : Prop where
  put : ∀ w (p : List UInt8) (n : Int), p.length < 1152921504606846976 → -9223372036854775808 ≤ n → n < 9223372036854775808 → Calls Tryd.prog 10 #[.string (str p), .int .i64 n] w fun e w' => ∃ v, e = .returned (.tuple #[v, .int .i64 (putHErr p n)]) ∧ OwnText w' w.heap.size v (putH p n) ∧ Below w.heap.size w w'
  get : ∀ w v (b : List UInt8), b.length < 4611686018427387904 → HasText w v b → Calls Tryd.prog 12 #[v] w fun e w' => e = .returned (.tuple #[.string (str (getHPath b)), .int .i64 (getHSize b), .int .i64 (getHErr b)]) ∧ Below w.heap.size w w'
structure RoundFace : Prop where
  blank : ∀ w v (b : List UInt8), b.length < 4611686018427387904 → HasText w v b → Calls Tryd.prog 17 #[v] w fun e w' => e = .returned (.bool (b.all (· == 0))) ∧ Below w.heap.size w w'
  round : ∀ w (z : Int), -100000 < z → z < 100000 → Calls Tryd.prog 15 #[.int .i64 z] w fun e w' => e = .returned (.int .i64 (roundZ z)) ∧ Below w.heap.size w w'
set_option maxRecDepth 100000 in
theorem put_a3 : putHErr [97] 3 = 0 ∧ (putH [97] 3).length = 512 ∧ (putH [97] 3).getD 0 0 = 97 ∧ ((putH [97] 3).take 136).drop 124 = [48, 48, 48, 48, 48, 48, 48, 48, 48, 48, 51, 0] ∧ ((putH [97] 3).take 263).drop 257 = [117, 115, 116, 97, 114, 0] := by
  have h : putHErr [97] 3 = 0 := by decide +kernel
  refine ⟨h, putH_len h, by decide +kernel, by decide +kernel, by decide +kernel⟩
set_option maxRecDepth 100000 in
set_option maxHeartbeats 8000000 in
theorem awake7_any (F : HeaderFace) (w : World) : Calls Tryd.prog 9 #[] w fun e w' => e = .returned (.bool true) ∧ Below w.heap.size w w' := by
  obtain ⟨a1, a2, a3, a4, a5⟩ := put_a3
  have P1 := Lib.hid (show ∀ w, Calls Tryd.prog 10 #[.string ⟨#[97]⟩, .int .i64 3] w fun e w' => ∃ v, e = .returned (.tuple #[v, .int .i64 0]) ∧ OwnText w' w.heap.size v (putH [97] 3) ∧ Below w.heap.size w w' from fun w => by
    have h := F.put w [97] 3 (by decide) (by decide) (by decide); rwa [a1] at h)
  have G1 := Lib.hid (show ∀ w v, HasText w v (putH [97] 3) → Calls Tryd.prog 12 #[v] w fun e w' => e = .returned (.tuple #[.string ⟨#[97]⟩, .int .i64 3, .int .i64 0]) ∧ Below w.heap.size w w' from fun w v hv => by
    have h := F.get w v (putH [97] 3) (by rw [a2]; decide) hv
    obtain ⟨g1, g2, g3⟩ := get_putH a1
    rw [g1, g2, g3] at h; exact h)
  have A := Lib.hid (And.intro a2 (And.intro a3 (And.intro a4 a5)))
  clear a1 a2 a3 a4 a5
  generalize putH [97] 3 = X at *
  go_enter Tryd.func9, Tryd.ntmps9
  go_upto_region 5 with (first
    | (go_at_call 10; refine (P1.out _).mono ?_; rintro e w1 ⟨v1, rfl, ⟨ht, hown⟩, hb⟩; obtain ⟨ad, cap, rfl, c0⟩ := text_pos ht 512 0 A.out.1 (by decide) 97 A.out.2.1; obtain ⟨g, o, sp⟩ := ad; obtain rfl : sp = none := (hown _ _ _ rfl).2.1; clear hown; have T := Lib.hid ht; have H1 := Lib.hid hb; clear ht hb)
    | (go_at_call 12; refine (G1.out _ _ T.out).mono ?_; rintro e w2 ⟨rfl, hb⟩; have T2 := Lib.hid (text_keep T.out hb); have H2 := Lib.hid (below_next H1.out hb); clear hb c0))
  obtain ⟨ad', cap', e, c0⟩ := text_pos T2.out 512 0 A.out.1 (by decide) 97 A.out.2.1
  cases e
  rw [Addr.add_lit, Nat.add_zero] at c0
  have c0' : w2.cell? ⟨g, o, none⟩ = some (.int .u8 97) := c0
  clear c0
  have m1 := text_mid T2.out 124 136 (by decide) (by rw [A.out.1]; decide)
  have m2 := text_mid T2.out 257 263 (by decide) (by rw [A.out.1]; decide)
  rw [A.out.2.2.1, Addr.add_lit] at m1
  rw [A.out.2.2.2, Addr.add_lit] at m2
  have cv1 := conv_text Tryd.underlying22 Tryd.underlying5 Tryd.underlying9 m1
  have cv2 := conv_text Tryd.underlying22 Tryd.underlying5 Tryd.underlying9 m2
  have hcap := (text_cap T2.out).2
  have qc1 : (136 : Int) ≤ (cap : Int) := by omega
  have qc2 : (263 : Int) ≤ (cap : Int) := by omega
  have s1 : (str [48, 48, 48, 48, 48, 48, 48, 48, 48, 48, 51, 0]).toList = [48, 48, 48, 48, 48, 48, 48, 48, 48, 48, 51, 0] := str_toList _
  have s2 : (str [117, 115, 116, 97, 114, 0]).toList = [117, 115, 116, 97, 114, 0] := str_toList _
  have s3 : (ByteArray.mk #[48, 48, 48, 48, 48, 48, 48, 48, 48, 48, 51, 0]).toList = [48, 48, 48, 48, 48, 48, 48, 48, 48, 48, 51, 0] := ByteArray.toList_mk _
  have s4 : (ByteArray.mk #[117, 115, 116, 97, 114, 0]).toList = [117, 115, 116, 97, 114, 0] := ByteArray.toList_mk _
  clear m1 m2 hcap
  go_wp2
  go_ret
  exact ⟨rfl, H2.out⟩
end Go.Proofs.YtbjekhhefepnlaaDoor
