/-
What package octal owes, as contracts; and the walk that all statements of layer 5 begin with.
-/
import Derived.Test.YtpgimgfoifgkfaaOctal
import Derived.Test.YtpgimgfoifgkfaaMark
import Derived.Test.YtpgimgfoifgkfaaProg
import Derived.WalkKit
import Derived.Lib.Hide
import Derived.WalkLawsBesides
namespace Go.Proofs.Ytpgimgfoifgkfaa
open Go.RowKit
structure OctalFace : Prop where
  put : ∀ w (n width : Int), -9223372036854775808 ≤ n → n < 9223372036854775808 → -9223372036854775808 ≤ width → width < 9223372036854775808 → Calls Try.prog 8 #[.int .i64 n, .int .i64 width] w fun e w' => ∃ v, e = .returned (.tuple #[v, .int .i64 (putErr n width)]) ∧ HasText w' v (putT n width) ∧ Below w.heap.size w w'
  get : ∀ w v (b : List UInt8), b.length < 4611686018427387904 → HasText w v b → Calls Try.prog 10 #[v] w fun e w' => e = .returned (.tuple #[.int .i64 (getN b), .int .i64 (getErr b)]) ∧ Below w.heap.size w w'
  text : ∀ w (s : List UInt8) (width : Int), s.length < 4611686018427387904 → -9223372036854775808 ≤ width → width < 9223372036854775808 → Calls Try.prog 13 #[.string (str s), .int .i64 width] w fun e w' => ∃ v, e = .returned (.tuple #[v, .int .i64 (fieldErr s width)]) ∧ HasText w' v (fieldT s width) ∧ Below w.heap.size w w'
  check : ∀ w v (b : List UInt8), b.length < 4611686018427387904 → HasText w v b → Calls Try.prog 12 #[v] w fun e w' => e = .returned (.int .i64 (IntKind.i64.wrap (sumL b))) ∧ Below w.heap.size w w'
theorem text_keep {w w' : World} {v : Value} {l : List UInt8} (h : HasText w v l) (hb : Below w.heap.size w w') : HasText w' v l := has_below h hb
/-- A slice that has bytes, as a text. -/
theorem text_of_bytes {w : World} {v : Value} {bs : List (BitVec 32)} (h : HasBytes w v bs) (hb : ∀ x ∈ bs, u32 x < 256) : ∃ l : List UInt8, HasText w v l ∧ l.length = bs.length := by
  have e : bs = (bs.map fun x => UInt8.ofNat x.toNat).map w8 := by
    rw [List.map_map]
    conv => lhs; rw [← List.map_id bs]
    apply List.map_congr_left
    intro x hx
    have h1 := hb x hx
    unfold u32 at h1
    apply BitVec.eq_of_toNat_eq
    simp only [Function.comp, w8, BitVec.toNat_ofNat, UInt8.toNat_ofNat', id]
    omega
  exact ⟨_, by unfold HasText; rw [← e]; exact h, by simp⟩
theorem text_shape {w : World} {v : Value} {l : List UInt8} (h : HasText w v l) (n : Nat) (hn : l.length = n) : ∃ ao cap, v = .slice ao n cap := by
  obtain ⟨ao, cap, rfl, -⟩ := h
  exact ⟨ao, cap, by rw [List.length_map, hn]⟩
theorem text_pos {w : World} {v : Value} {l : List UInt8} (h : HasText w v l) (n k : Nat) (hn : l.length = n) (hk : k < n) (c : UInt8) (hc : l.getD k 0 = c) : ∃ ad cap, v = .slice (some ad) n cap ∧ w.cell? (ad.add k) = some (.int .u8 (c.toNat : Int)) := by
  obtain ⟨ao, cap, rfl, hnil, hcs⟩ := h
  subst hn; subst hc
  rw [List.length_map]
  cases ao with
  | none => obtain ⟨hl, _⟩ := hnil rfl; simp at hl; subst hl; simp at hk
  | some ad =>
    refine ⟨ad, cap, rfl, (hcs ad rfl).2 k _ ?_⟩
    rw [bytesL_map]; simp [hk]
/-- A slice of bytes that was just written out. -/
theorem text_lit (w : World) (t : TypeId) (l : List UInt8) (cs : Array Value) (n : Nat) (h : cs = (l.map fun b => Value.int .u8 b.toNat).toArray) (hn : n = l.length) :
    HasText (w.alloc (.cells cs t (0, 0))) (.slice (some ⟨w.heap.size, 0, none⟩) n n) l := by
  subst h; subst hn
  have h := has_new w t (0, 0) (l.map w8)
  rw [bytesL_map, List.length_map] at h
  exact h
set_option maxHeartbeats 4000000 in
theorem awake5_any (F : OctalFace) (w : World) : Calls Try.prog 7 #[] w fun e w' => e = .returned (.bool true) ∧ Below w.heap.size w w' := by
  have A1 := Lib.hid (show ∀ w, Calls Try.prog 8 #[.int .i64 8, .int .i64 4] w fun e w' => ∃ v, e = .returned (.tuple #[v, .int .i64 0]) ∧ HasText w' v [48, 49, 48, 0] ∧ Below w.heap.size w w' from fun w => by
    have h := F.put w 8 4 (by decide) (by decide) (by decide) (by decide)
    rwa [show putErr 8 4 = 0 by decide +kernel, show putT 8 4 = [48, 49, 48, 0] by decide +kernel] at h)
  have A2 := Lib.hid (show ∀ w, Calls Try.prog 13 #[.string ⟨#[97, 98]⟩, .int .i64 3] w fun e w' => ∃ v, e = .returned (.tuple #[v, .int .i64 0]) ∧ HasText w' v [97, 98, 0] ∧ Below w.heap.size w w' from fun w => by
    have h := F.text w [97, 98] 3 (by decide) (by decide) (by decide)
    rwa [show fieldErr [97, 98] 3 = 0 by decide +kernel, show fieldT [97, 98] 3 = [97, 98, 0] by decide +kernel] at h)
  have A3 := Lib.hid (show ∀ w v, HasText w v [48, 49, 48, 0] → Calls Try.prog 10 #[v] w fun e w' => e = .returned (.tuple #[.int .i64 8, .int .i64 0]) ∧ Below w.heap.size w w' from fun w v hv => by
    have h := F.get w v [48, 49, 48, 0] (by decide) hv
    rwa [show getN [48, 49, 48, 0] = 8 by decide +kernel, show getErr [48, 49, 48, 0] = 0 by decide +kernel] at h)
  have A4 := Lib.hid (show ∀ w v, HasText w v [1, 2] → Calls Try.prog 12 #[v] w fun e w' => e = .returned (.int .i64 3) ∧ Below w.heap.size w w' from fun w v hv => by
    have h := F.check w v [1, 2] (by decide) hv
    rwa [show IntKind.i64.wrap (sumL [1, 2]) = 3 by decide +kernel] at h)
  have h1 : (str [48, 49, 48, 0]).toList = [48, 49, 48, 0] := str_toList _
  have h1' : (ByteArray.mk #[48, 49, 48, 0]).toList = [48, 49, 48, 0] := ByteArray.toList_mk [48, 49, 48, 0]
  have h2 : (str [97, 98, 0]).toList = [97, 98, 0] := str_toList _
  have h2' : (ByteArray.mk #[97, 98, 0]).toList = [97, 98, 0] := ByteArray.toList_mk [97, 98, 0]
  go_enter Try.func7, Try.ntmps7
  go_wp2_with (first
    | (go_at_call 8; refine (A1.out _).mono ?_; rintro e w1 ⟨v1, rfl, ht, hb⟩; have T1 := Lib.hid ht; have H1 := Lib.hid hb; clear ht hb)
    | (go_at_call 13; refine (A2.out _).mono ?_; rintro e w2 ⟨v2, rfl, ht, hb⟩; have S1 := Lib.hid (text_keep T1.out hb); have T2 := Lib.hid ht; have H2 := Lib.hid (below_next H1.out hb); clear ht hb T1 H1)
    | (go_at_call 10; refine (A3.out _ _ (text_lit w2 5 [48, 49, 48, 0] _ 4 rfl rfl)).mono ?_; rintro e w3 ⟨rfl, hb⟩; have H0 := (Below.refl w2.heap.size w2).alloc (Nat.le_refl _) (.cells #[.int .u8 48, .int .u8 49, .int .u8 48, .int .u8 0] 5 (0, 0)); replace hb := below_next H0 hb; have cv1 := conv_text Try.underlying22 Try.underlying5 Try.underlying9 (text_keep S1.out hb); have cv2 := conv_text Try.underlying22 Try.underlying5 Try.underlying9 (text_keep T2.out hb); have H3 := Lib.hid (below_next H2.out hb); clear hb S1 T2 H2 H0)
    | (go_at_call 12; refine (A4.out _ _ (text_lit w3 5 [1, 2] _ 2 rfl rfl)).mono ?_; rintro e w4 ⟨rfl, hb⟩; have H0 := (Below.refl w3.heap.size w3).alloc (Nat.le_refl _) (.cells #[.int .u8 1, .int .u8 2] 5 (0, 0)); have H4 := Lib.hid (below_next H3.out (below_next H0 hb)); clear hb H0))
  go_ret
  exact ⟨rfl, H4.out⟩
end Go.Proofs.Ytpgimgfoifgkfaa
