/-
Texts that all claims of this seat share, part 4: HeaderLay, HeaderPut, OctalName, OctalMore, HexaFace, Marks, PathSeq, PathPart, PathAll.
-/
import Derived.Test.YtocpplnnnflekaaDoorProg
import Derived.WalkKit
import Derived.Lib.Hide
import Derived.WalkLawsBesides
import Derived.Lib.ItoaNum
import Derived.Lib.LaidTab
import Derived.Lib.IndexLaws
import Derived.Test.YtocpplnnnflekaaDoorShelf
import Derived.RangeFuncNested
import Derived.RangeFuncBound
import Derived.RangeFuncCalls
import Derived.RangeFuncLeaves
import Derived.RangeFuncFrom
import Derived.Shelf.Abstract
import Derived.Shelf.RegionOpen
import Derived.OwnWalkIn
import Derived.TacticsInMore
import Derived.LoopNIn
import Derived.LoopIn
import Derived.Test.YtocpplnnnflekaaDoorPk3
namespace Go.Proofs.YtocpplnnnflekaaDoor
open Go.RowKit
/-- Bytes as a list of cells. -/
def cellsL (l : List UInt8) : List Value := l.map fun b => Value.int .u8 (b.toNat : Int)
theorem cellsL_length (l : List UInt8) : (cellsL l).length = l.length := List.length_map _
theorem splice_row (L : List UInt8) (o : Nat) (F : List UInt8) : (splice (cellsL L) o (cellsL F)).toArray = byteRow (splice L o F) := by
  simp [splice, byteRow, cellsL]
/-- A block of bytes, and a variable that says where the next field is laid in it. -/
def Laying (w : World) (H B : Nat) (L : List UInt8) (o n cap : Nat) : Prop :=
  w.heap[H]? = some (.cells (byteRow L) 5 (0, 0)) ∧ w.heap[B]? = some (.cells #[.slice (some ⟨H, o, none⟩) n cap] 25 (0, 0)) ∧ H ≠ B
theorem laying_below {w w' : World} {H B : Nat} {L : List UInt8} {o n cap : Nat} (h : Laying w H B L o n cap) (hb : Below w.heap.size w w') : Laying w' H B L o n cap :=
  ⟨(hb.block H (lt_of_block h.1)).trans h.1, (hb.block B (lt_of_block h.2.1)).trans h.2.1, h.2.2⟩
theorem layer_any (w : World) (ad : Addr) (n cap : Nat) : Calls Tryd.prog 44 #[.slice (some ad) n cap] w fun e w' => e = .returned (.func (.func 55) #[] #[.pointer (some ⟨w.heap.size, 0, none⟩)]) ∧ w' = w.alloc (.cells #[.slice (some ad) n cap] 25 (0, 0)) := by
  have hmf : ∀ (fn : Fn) (first cap : Array Value) (w : World), (Instr.makeFunc fn first cap).run Tryd.prog w = .ok (.func fn first cap) w := fun _ _ _ _ => rfl
  go_enter Tryd.func44, Tryd.ntmps44
  go_wp2
  go_ret
  exact ⟨rfl, rfl⟩
set_option maxRecDepth 100000 in
set_option maxHeartbeats 4000000 in
theorem field_any (w : World) (base H B : Nat) (L F : List UInt8) (o n cap : Nat) (v : Value) (e : Int) (hH : base ≤ H) (hB : base ≤ B) (hw : Laying w H B L o n cap) (hv : HasText w v F) (hF : F ≠ []) (hn : F.length ≤ n) (hc : F.length < cap) (hL : o + n ≤ L.length) :
    Calls Tryd.prog 55 #[v, .int .i64 e, .pointer (some ⟨B, 0, none⟩)] w fun e w' => e = .returned (.slice (some ⟨H, o, none⟩) F.length cap) ∧ Laying w' H B (splice L o F) (o + F.length) (n - F.length) (cap - F.length) ∧ Below base w w' := by
  obtain ⟨h1, h2, h3⟩ := hw
  obtain ⟨ao, c0, rfl, hnil, hcs⟩ := hv
  rw [List.length_map]
  obtain ⟨ad, rfl⟩ : ∃ ad, ao = some ad := by
    cases ao with
    | none => exact absurd (by simpa using (hnil rfl).1) hF
    | some ad => exact ⟨ad, rfl⟩
  have hcells := (hcs ad rfl).2
  rw [bytesL_map] at hcells
  replace hcells : ∀ (j : Nat) (u : Value), (cellsL F)[j]? = some u → w.cell? (ad.add j) = some u := hcells
  clear hcs hnil
  obtain ⟨f, hf⟩ : ∃ f, f = F.length := ⟨_, rfl⟩
  rw [← hf] at hn hc ⊢
  have cB := cell_of_one h2
  have fB := free_of_one h2
  have HC := Lib.hid (And.intro hcells (And.intro h1 (And.intro h2 (And.intro h3 (And.intro hf (And.intro hH (And.intro hB hL)))))))
  have q1 : (f : Int) ≤ (cap : Int) := by omega
  have q2 : (f : Int) ≤ (n : Int) := by omega
  have q3 : ¬ cap = f := by omega
  have q4 : ¬ (f : Int) < 0 := by omega
  clear hcells h1 h2 h3 hf hH hB hL hF
  go_enter Tryd.func55, Tryd.ntmps55
  go_wp2_with (first
    | (refine copy_in rfl (.tmp 8) (.tmp 9) 25 25 rfl 5 Tryd.underlying25 (by kernel_rfl) H o n cap ad f c0 rfl rfl (cellsL L) 5 HC.out.2.1 (cellsL F) f (by rw [cellsL_length]; exact HC.out.2.2.2.2.1.symm) (by have h : f ≤ n := (by omega); show f = min f n; omega) (fun j v hj => HC.out.1 j v hj) (by rw [cellsL_length, cellsL_length]; have h := HC.out.2.2.2.2.1; have h2 := HC.out.2.2.2.2.2.2.2; omega) (by intro v hv; obtain ⟨c, -, rfl⟩ := List.mem_map.1 hv; rfl) ?_; intro w1 hg1 hs1; rw [splice_row] at hg1; have hb1 := (hs1.block B (fun h => HC.out.2.2.2.1 h.symm)).trans HC.out.2.2.1; have cB1 := cell_of_one hb1; have fB1 := free_of_one hb1; have H1 := Lib.hid (And.intro hg1 (And.intro hs1 hb1)); clear hg1 hs1 hb1))
  go_ret
  have hne : H ≠ B := HC.out.2.2.2.1
  refine ⟨rfl, ⟨(heap_setCell_other _ _ _ _ hne).trans H1.out.1, one_setCell H1.out.2.2, hne⟩, (solo_under (Below.refl base w) H1.out.2.1 HC.out.2.2.2.2.2.1).setCell HC.out.2.2.2.2.2.2.1 _⟩
theorem splice_lay (A F : List UInt8) (a c c' : Nat) (hA : A.length = a) (hF : F.length + c' = c) : splice (A ++ List.replicate c 0) a F = (A ++ F) ++ List.replicate c' 0 := by
  rw [splice, List.take_left' hA, ← List.append_assoc, ← List.drop_drop, List.drop_left' hA, List.drop_replicate, show c - F.length = c' by omega]
theorem sum_laid (A E C Q : List UInt8) (lA : A.length = 148) (lE : E.length = 8) (lQ : Q.length = 7) : splice (A ++ (E ++ C)) 148 Q = (A ++ Q) ++ (E.drop 7 ++ C) ∧ splice (splice (A ++ (E ++ C)) 148 Q) 155 [32] = A ++ (Q ++ ([32] ++ C)) := by
  have e1 : splice (A ++ (E ++ C)) 148 Q = (A ++ Q) ++ (E.drop 7 ++ C) := by
    rw [splice, List.take_left' lA, ← List.drop_drop, List.drop_left' lA, lQ, List.drop_append_of_le_length (by omega), List.append_assoc]
  refine ⟨e1, ?_⟩
  have l2 : (A ++ Q).length = 155 := by rw [List.length_append, lA, lQ]
  have l3 : (E.drop 7).length = [(32 : UInt8)].length := by rw [List.length_drop, lE]; rfl
  rw [e1, splice, List.take_left' l2, ← List.drop_drop, List.drop_left' l2, List.drop_left' l3, List.append_assoc]
/-- A field laid ahead of bytes 0. -/
theorem field_next (w : World) (base H B : Nat) (A F : List UInt8) (a c f a' c' : Nat) (v : Value) (e : Int) (hH : base ≤ H) (hB : base ≤ B) (hw : Laying w H B (A ++ List.replicate c 0) a c c) (hA : A.length = a) (hv : HasText w v F) (hf : F.length = f) (h0 : 0 < f) (ha : a + f = a') (hc : f + c' = c) (hc0 : 0 < c') :
    Calls Tryd.prog 55 #[v, .int .i64 e, .pointer (some ⟨B, 0, none⟩)] w fun e w' => e = .returned (.slice (some ⟨H, a, none⟩) f c) ∧ (Laying w' H B ((A ++ F) ++ List.replicate c' 0) a' c' c' ∧ (A ++ F).length = a') ∧ Below base w w' := by
  have h := field_any w base H B (A ++ List.replicate c 0) F a c c v e hH hB hw hv (fun h => by rw [h] at hf; simp at hf; omega) (by omega) (by omega) (by rw [List.length_append, List.length_replicate, hA]; exact Nat.le_refl _)
  refine h.mono fun e w' => ?_
  rintro ⟨rfl, hl, hb⟩
  rw [splice_lay A F a c c' hA (by omega), hf, ha, show c - f = c' by omega] at hl
  exact ⟨by rw [hf], ⟨hl, by rw [List.length_append]; omega⟩, hb⟩
end Go.Proofs.YtocpplnnnflekaaDoor
namespace Go.Proofs.YtocpplnnnflekaaDoor
open Go.RowKit
theorem text_ok (F : OctalFace) (s : List UInt8) (k : Nat) (h : fieldErr s (k : Int) = 0) (w : World) : Calls Tryd.prog 45 #[.string (str s), .int .i64 (k : Int)] w fun e w' => ∃ v, e = .returned (.tuple #[v, .int .i64 0]) ∧ HasText w' v (fieldT s (k : Int)) ∧ Below w.heap.size w w' := by
  obtain ⟨h1, h2, -, h4⟩ := (fieldErr_ok s (k : Int)).1 h
  have := F.text w s (k : Int) (by omega) (by omega) (by omega)
  rwa [h] at this
theorem put_ok (F : OctalFace) (n : Int) (k : Nat) (h : putErr n (k : Int) = 0) (h0 : -9223372036854775808 ≤ n) (h1 : n < 9223372036854775808) (hk : k < 256) (w : World) : Calls Tryd.prog 46 #[.int .i64 n, .int .i64 (k : Int)] w fun e w' => ∃ v, e = .returned (.tuple #[v, .int .i64 0]) ∧ HasText w' v (putT n (k : Int)) ∧ Below w.heap.size w w' := by
  have := F.put w n (k : Int) h0 h1 (by omega) (by omega)
  rwa [h] at this
set_option maxRecDepth 100000 in
set_option maxHeartbeats 16000000 in
theorem lay_any (pre name : List UInt8) (size : Int) (hfit : Fit pre name size) (hs0 : 0 ≤ size) (hs1 : size ≤ 4194304) (w : World) : Calls Tryd.prog 31 #[.string (str pre), .string (str name), .int .i64 size] w fun e w' => ∃ v, e = .returned v ∧ OwnText w' w.heap.size v (hdrL pre name size) ∧ Below w.heap.size w w' := by
  obtain ⟨i0, hi, hz0, hz1, hz2⟩ := info_parts infoByte
  have TF1 := Lib.hid (show ∀ w, Calls Tryd.prog 45 #[.string (str name), .int .i64 100] w fun e w' => ∃ v, e = .returned (.tuple #[v, .int .i64 0]) ∧ HasText w' v (fieldT name 100) ∧ Below w.heap.size w w' from fun w => text_ok octalFace name 100 hfit.1 w)
  have LF1 : (fieldT name 100).length = 100 := fieldT_length name 100 hfit.1
  have TP8 := Lib.hid (show ∀ w, Calls Tryd.prog 46 #[.int .i64 420, .int .i64 8] w fun e w' => ∃ v, e = .returned (.tuple #[v, .int .i64 0]) ∧ HasText w' v (putT 420 8) ∧ Below w.heap.size w w' from fun w => put_ok octalFace 420 8 (by decide +kernel) (by omega) (by omega) (by omega) w)
  have LP8 : (putT 420 8).length = 8 := (get_put 420 8 (by decide +kernel)).2.2
  have TZ8 := Lib.hid (show ∀ w, Calls Tryd.prog 46 #[.int .i64 0, .int .i64 8] w fun e w' => ∃ v, e = .returned (.tuple #[v, .int .i64 0]) ∧ HasText w' v (putT 0 8) ∧ Below w.heap.size w w' from fun w => put_ok octalFace 0 8 (by decide +kernel) (by omega) (by omega) (by omega) w)
  have LZ8 : (putT 0 8).length = 8 := (get_put 0 8 (by decide +kernel)).2.2
  have TS12 := Lib.hid (show ∀ w, Calls Tryd.prog 46 #[.int .i64 size, .int .i64 12] w fun e w' => ∃ v, e = .returned (.tuple #[v, .int .i64 0]) ∧ HasText w' v (putT size 12) ∧ Below w.heap.size w w' from fun w => put_ok octalFace size 12 hfit.2.2 (by omega) (by omega) (by omega) w)
  have LS12 : (putT size 12).length = 12 := (get_put size 12 hfit.2.2).2.2
  have TZ12 := Lib.hid (show ∀ w, Calls Tryd.prog 46 #[.int .i64 0, .int .i64 12] w fun e w' => ∃ v, e = .returned (.tuple #[v, .int .i64 0]) ∧ HasText w' v (putT 0 12) ∧ Below w.heap.size w w' from fun w => put_ok octalFace 0 12 (by decide +kernel) (by omega) (by omega) (by omega) w)
  have LZ12 : (putT 0 12).length = 12 := (get_put 0 12 (by decide +kernel)).2.2
  have TE8 := Lib.hid (show ∀ w, Calls Tryd.prog 45 #[.string ⟨#[]⟩, .int .i64 8] w fun e w' => ∃ v, e = .returned (.tuple #[v, .int .i64 0]) ∧ HasText w' v (fieldT [] 8) ∧ Below w.heap.size w w' from fun w => text_ok octalFace [] 8 (by decide +kernel) w)
  have LE8 : (fieldT [] 8).length = 8 := fieldT_length [] 8 (by decide +kernel)
  have TK1 := Lib.hid (show ∀ w, Calls Tryd.prog 45 #[.string ⟨#[48]⟩, .int .i64 1] w fun e w' => ∃ v, e = .returned (.tuple #[v, .int .i64 0]) ∧ HasText w' v (fieldT [48] 1) ∧ Below w.heap.size w w' from fun w => text_ok octalFace [48] 1 (by decide +kernel) w)
  have LK1 : (fieldT [48] 1).length = 1 := fieldT_length [48] 1 (by decide +kernel)
  have TE100 := Lib.hid (show ∀ w, Calls Tryd.prog 45 #[.string ⟨#[]⟩, .int .i64 100] w fun e w' => ∃ v, e = .returned (.tuple #[v, .int .i64 0]) ∧ HasText w' v (fieldT [] 100) ∧ Below w.heap.size w w' from fun w => text_ok octalFace [] 100 (by decide +kernel) w)
  have LE100 : (fieldT [] 100).length = 100 := fieldT_length [] 100 (by decide +kernel)
  have TM6 := Lib.hid (show ∀ w, Calls Tryd.prog 45 #[.string ⟨#[117, 115, 116, 97, 114]⟩, .int .i64 6] w fun e w' => ∃ v, e = .returned (.tuple #[v, .int .i64 0]) ∧ HasText w' v (fieldT [117, 115, 116, 97, 114] 6) ∧ Below w.heap.size w w' from fun w => text_ok octalFace [117, 115, 116, 97, 114] 6 (by decide +kernel) w)
  have LM6 : (fieldT [117, 115, 116, 97, 114] 6).length = 6 := fieldT_length [117, 115, 116, 97, 114] 6 (by decide +kernel)
  have TV2 := Lib.hid (show ∀ w, Calls Tryd.prog 45 #[.string ⟨#[48, 48]⟩, .int .i64 2] w fun e w' => ∃ v, e = .returned (.tuple #[v, .int .i64 0]) ∧ HasText w' v (fieldT [48, 48] 2) ∧ Below w.heap.size w w' from fun w => text_ok octalFace [48, 48] 2 (by decide +kernel) w)
  have LV2 : (fieldT [48, 48] 2).length = 2 := fieldT_length [48, 48] 2 (by decide +kernel)
  have TE32 := Lib.hid (show ∀ w, Calls Tryd.prog 45 #[.string ⟨#[]⟩, .int .i64 32] w fun e w' => ∃ v, e = .returned (.tuple #[v, .int .i64 0]) ∧ HasText w' v (fieldT [] 32) ∧ Below w.heap.size w w' from fun w => text_ok octalFace [] 32 (by decide +kernel) w)
  have LE32 : (fieldT [] 32).length = 32 := fieldT_length [] 32 (by decide +kernel)
  have TF155 := Lib.hid (show ∀ w, Calls Tryd.prog 45 #[.string (str pre), .int .i64 155] w fun e w' => ∃ v, e = .returned (.tuple #[v, .int .i64 0]) ∧ HasText w' v (fieldT pre 155) ∧ Below w.heap.size w w' from fun w => text_ok octalFace pre 155 hfit.2.1 w)
  have LF155 : (fieldT pre 155).length = 155 := fieldT_length pre 155 hfit.2.1
  obtain ⟨A, hA⟩ : ∃ A, A = hdrA name size := ⟨_, rfl⟩
  obtain ⟨C, hC⟩ : ∃ C, C = hdrC pre := ⟨_, rfl⟩
  obtain ⟨S, hS⟩ : ∃ S, S = hdrS pre name size := ⟨_, rfl⟩
  have lA : A.length = 148 := by rw [hA]; exact hdrA_len hfit
  have lC : C.length = 356 := by rw [hC]; exact hdrC_len hfit
  have lS : S ≤ 130560 := by rw [hS]; exact hdrS_lt hfit
  have sS : sumL (A ++ (fieldT [] 8 ++ C)) = S := by
    rw [hS, hdrS, hdr0, hA, hC]
    exact sum_mid _ _ _ _ (hdrA_len hfit) (by decide +kernel) (by rw [blank8_eq]; rfl)
  have CK := Lib.hid (show ∀ w v, HasText w v (A ++ (fieldT [] 8 ++ C)) → Calls Tryd.prog 47 #[v] w fun e w' => e = .returned (.int .i64 (S : Int)) ∧ Below w.heap.size w w' from fun w v hv => by
    have h := octalFace.check w v _ (by rw [List.length_append, List.length_append, lA, lC, LE8]; decide) hv
    rw [sS, show IntKind.i64.wrap (S : Int) = (S : Int) by rw [IntKind.wrap_i64]; omega] at h
    exact h)
  have TS := Lib.hid (show ∀ w, Calls Tryd.prog 46 #[.int .i64 (S : Int), .int .i64 7] w fun e w' => ∃ v, e = .returned (.tuple #[v, .int .i64 0]) ∧ HasText w' v (putT S 7) ∧ Below w.heap.size w w' from fun w => put_ok octalFace S 7 (put7 lS) (by omega) (by omega) (by omega) w)
  have LS7 : (putT S 7).length = 7 := (get_put S 7 (put7 lS)).2.2
  have TB := Lib.hid (show ∀ w, Calls Tryd.prog 45 #[.string ⟨#[32]⟩, .int .i64 1] w fun e w' => ∃ v, e = .returned (.tuple #[v, .int .i64 0]) ∧ HasText w' v [32] ∧ Below w.heap.size w w' from fun w => by
    have h := text_ok octalFace [32] 1 (by decide +kernel) w
    rwa [show fieldT [32] ((1 : Nat) : Int) = [32] by decide +kernel] at h)
  have HW := Lib.hid (show hdrL pre name size = A ++ (putT S 7 ++ ([32] ++ C)) by rw [hdrL, sumB, hA, hC, hS, List.append_assoc])
  obtain ⟨F1, hF1⟩ : ∃ l, l = fieldT name 100 := ⟨_, rfl⟩
  rw [← hF1] at TF1 LF1
  obtain ⟨P8, hP8⟩ : ∃ l, l = putT 420 8 := ⟨_, rfl⟩
  rw [← hP8] at TP8 LP8
  obtain ⟨Z8, hZ8⟩ : ∃ l, l = putT 0 8 := ⟨_, rfl⟩
  rw [← hZ8] at TZ8 LZ8
  obtain ⟨S12, hS12⟩ : ∃ l, l = putT size 12 := ⟨_, rfl⟩
  rw [← hS12] at TS12 LS12
  obtain ⟨Z12, hZ12⟩ : ∃ l, l = putT 0 12 := ⟨_, rfl⟩
  rw [← hZ12] at TZ12 LZ12
  obtain ⟨E8, hE8⟩ : ∃ l, l = fieldT [] 8 := ⟨_, rfl⟩
  rw [← hE8] at TE8 LE8
  obtain ⟨K1, hK1⟩ : ∃ l, l = fieldT [48] 1 := ⟨_, rfl⟩
  rw [← hK1] at TK1 LK1
  obtain ⟨E100, hE100⟩ : ∃ l, l = fieldT [] 100 := ⟨_, rfl⟩
  rw [← hE100] at TE100 LE100
  obtain ⟨M6, hM6⟩ : ∃ l, l = fieldT [117, 115, 116, 97, 114] 6 := ⟨_, rfl⟩
  rw [← hM6] at TM6 LM6
  obtain ⟨V2, hV2⟩ : ∃ l, l = fieldT [48, 48] 2 := ⟨_, rfl⟩
  rw [← hV2] at TV2 LV2
  obtain ⟨E32, hE32⟩ : ∃ l, l = fieldT [] 32 := ⟨_, rfl⟩
  rw [← hE32] at TE32 LE32
  obtain ⟨F155, hF155⟩ : ∃ l, l = fieldT pre 155 := ⟨_, rfl⟩
  rw [← hF155] at TF155 LF155
  rw [← hE8] at sS CK
  have HE := Lib.hid (show (((((((((((((((([] ++ F1) ++ P8) ++ Z8) ++ Z8) ++ S12) ++ Z12) ++ E8) ++ K1) ++ E100) ++ M6) ++ V2) ++ E32) ++ E32) ++ Z8) ++ Z8) ++ F155) ++ List.replicate 12 0 = A ++ (E8 ++ C) by
    have e12 : List.replicate 12 (0 : UInt8) = fieldT [] 12 := by decide +kernel
    rw [e12, hA, hC, hdrA, hdrC, ← hF1, ← hP8, ← hZ8, ← hS12, ← hZ12, ← hK1, ← hE100, ← hM6, ← hV2, ← hE32, ← hF155]; simp only [List.append_assoc, List.nil_append])
  have HL := Lib.hid (And.intro LF1 ( And.intro LP8 ( And.intro LZ8 ( And.intro LS12 ( And.intro LZ12 ( And.intro LE8 ( And.intro LK1 ( And.intro LE100 ( And.intro LM6 ( And.intro LV2 ( And.intro LE32 ( And.intro LF155 (And.intro lA (And.intro lC (And.intro LS7 LE8)))))))))))))))
  obtain ⟨Q7, hQ7⟩ : ∃ l, l = putT S 7 := ⟨_, rfl⟩
  rw [← hQ7] at TS LS7 HL HW
  clear LF1 hF1 LP8 hP8 LZ8 hZ8 LS12 hS12 LZ12 hZ12 LE8 hE8 LK1 hK1 LE100 hE100 LM6 hM6 LV2 hV2 LE32 hE32 LF155 hF155 lA lC lS sS hA hC hS LS7 hs0 hs1 hfit hQ7
  go_enter Tryd.func31, Tryd.ntmps31
  go_upto_region 2 with (first | (refine wpList_make_full _ rfl (.const (.int .i64 512)) (.const (.int .i64 512)) 25 rfl w.heap.size 5 i0 (.int .u8 0) 1 Tryd.underlying25 hi hz0 hz1 .i64 .i64 512 512 512 rfl rfl rfl rfl (by rw [hz2]; decide) (by unfold maxLen; decide) (Nat.le_refl _) ?_; intro w1 ho1 hg1; have HC1 := Lib.hid (made_row ho1); have HB1 := Lib.hid (below_grown (Below.refl w.heap.size w) hg1 (Nat.le_refl _) (fun k hk => by cases hk)); clear ho1 hg1))
  go_upto_region 3 with (first | (go_at_call 44; refine (layer_any w1 ⟨w.heap.size, 0, none⟩ 512 512).mono ?_; rintro e w2 ⟨rfl, rfl⟩))
  obtain ⟨w2, hw2⟩ : ∃ w2, w2 = w1.alloc (.cells #[.slice (some ⟨w.heap.size, 0, none⟩) 512 512] 25 (0, 0)) := ⟨_, rfl⟩
  have HY0 := Lib.hid (show Laying w2 w.heap.size w1.heap.size ([] ++ List.replicate 512 0) 0 512 512 ∧ ([] : List UInt8).length = 0 by
    have hlt := lt_of_block HC1.out
    refine ⟨⟨?_, ?_, by omega⟩, rfl⟩
    · rw [hw2, heap_at_alloc, if_neg (by omega)]; exact HC1.out
    · rw [hw2]; exact heap_last _ _)
  have HX0 := Lib.hid (show Below w.heap.size w w2 by rw [hw2]; exact HB1.out.alloc HB1.out.size _)
  have HB := Lib.hid (show w.heap.size ≤ w1.heap.size from HB1.out.size)
  rw [← hw2]
  clear hw2 HC1 HB1
  generalize w1.heap.size = B at *
  go_upto_region 4 with (first | (go_at_call 45; refine (TF1.out _).mono ?_; rintro e w3a ⟨vt, rfl, ht, hb⟩; have HY := Lib.hid (And.intro (laying_below HY0.out.1 hb) HY0.out.2); have HX := Lib.hid (below_next HX0.out hb); have HT := Lib.hid ht; clear ht hb HY0 HX0) | (go_at_call 55; refine (field_next w3a w.heap.size w.heap.size B [] F1 0 512 100 100 412 vt _ (Nat.le_refl _) HB.out HY.out.1 HY.out.2 HT.out HL.out.1 (by decide) rfl rfl (by decide)).mono ?_; rintro e w3b ⟨rfl, hl, hb⟩; have HY1 := Lib.hid hl; have HX1 := Lib.hid (HX.out.trans hb); clear hl hb HY HX HT))
  go_upto_region 5 with (first | (go_at_call 46; refine (TP8.out _).mono ?_; rintro e w4a ⟨vt, rfl, ht, hb⟩; have HY := Lib.hid (And.intro (laying_below HY1.out.1 hb) HY1.out.2); have HX := Lib.hid (below_next HX1.out hb); have HT := Lib.hid ht; clear ht hb HY1 HX1) | (go_at_call 55; refine (field_next w4a w.heap.size w.heap.size B ([] ++ F1) P8 100 412 8 108 404 vt _ (Nat.le_refl _) HB.out HY.out.1 HY.out.2 HT.out HL.out.2.1 (by decide) rfl rfl (by decide)).mono ?_; rintro e w4b ⟨rfl, hl, hb⟩; have HY2 := Lib.hid hl; have HX2 := Lib.hid (HX.out.trans hb); clear hl hb HY HX HT))
  go_upto_region 6 with (first | (go_at_call 46; refine (TZ8.out _).mono ?_; rintro e w5a ⟨vt, rfl, ht, hb⟩; have HY := Lib.hid (And.intro (laying_below HY2.out.1 hb) HY2.out.2); have HX := Lib.hid (below_next HX2.out hb); have HT := Lib.hid ht; clear ht hb HY2 HX2) | (go_at_call 55; refine (field_next w5a w.heap.size w.heap.size B (([] ++ F1) ++ P8) Z8 108 404 8 116 396 vt _ (Nat.le_refl _) HB.out HY.out.1 HY.out.2 HT.out HL.out.2.2.1 (by decide) rfl rfl (by decide)).mono ?_; rintro e w5b ⟨rfl, hl, hb⟩; have HY3 := Lib.hid hl; have HX3 := Lib.hid (HX.out.trans hb); clear hl hb HY HX HT))
  go_upto_region 7 with (first | (go_at_call 46; refine (TZ8.out _).mono ?_; rintro e w6a ⟨vt, rfl, ht, hb⟩; have HY := Lib.hid (And.intro (laying_below HY3.out.1 hb) HY3.out.2); have HX := Lib.hid (below_next HX3.out hb); have HT := Lib.hid ht; clear ht hb HY3 HX3) | (go_at_call 55; refine (field_next w6a w.heap.size w.heap.size B ((([] ++ F1) ++ P8) ++ Z8) Z8 116 396 8 124 388 vt _ (Nat.le_refl _) HB.out HY.out.1 HY.out.2 HT.out HL.out.2.2.1 (by decide) rfl rfl (by decide)).mono ?_; rintro e w6b ⟨rfl, hl, hb⟩; have HY4 := Lib.hid hl; have HX4 := Lib.hid (HX.out.trans hb); clear hl hb HY HX HT))
  go_upto_region 8 with (first | (go_at_call 46; refine (TS12.out _).mono ?_; rintro e w7a ⟨vt, rfl, ht, hb⟩; have HY := Lib.hid (And.intro (laying_below HY4.out.1 hb) HY4.out.2); have HX := Lib.hid (below_next HX4.out hb); have HT := Lib.hid ht; clear ht hb HY4 HX4) | (go_at_call 55; refine (field_next w7a w.heap.size w.heap.size B (((([] ++ F1) ++ P8) ++ Z8) ++ Z8) S12 124 388 12 136 376 vt _ (Nat.le_refl _) HB.out HY.out.1 HY.out.2 HT.out HL.out.2.2.2.1 (by decide) rfl rfl (by decide)).mono ?_; rintro e w7b ⟨rfl, hl, hb⟩; have HY5 := Lib.hid hl; have HX5 := Lib.hid (HX.out.trans hb); clear hl hb HY HX HT))
  go_upto_region 9 with (first | (go_at_call 46; refine (TZ12.out _).mono ?_; rintro e w8a ⟨vt, rfl, ht, hb⟩; have HY := Lib.hid (And.intro (laying_below HY5.out.1 hb) HY5.out.2); have HX := Lib.hid (below_next HX5.out hb); have HT := Lib.hid ht; clear ht hb HY5 HX5) | (go_at_call 55; refine (field_next w8a w.heap.size w.heap.size B ((((([] ++ F1) ++ P8) ++ Z8) ++ Z8) ++ S12) Z12 136 376 12 148 364 vt _ (Nat.le_refl _) HB.out HY.out.1 HY.out.2 HT.out HL.out.2.2.2.2.1 (by decide) rfl rfl (by decide)).mono ?_; rintro e w8b ⟨rfl, hl, hb⟩; have HY6 := Lib.hid hl; have HX6 := Lib.hid (HX.out.trans hb); clear hl hb HY HX HT))
  go_upto_region 10 with (first | (go_at_call 45; refine (TE8.out _).mono ?_; rintro e w9a ⟨vt, rfl, ht, hb⟩; have HY := Lib.hid (And.intro (laying_below HY6.out.1 hb) HY6.out.2); have HX := Lib.hid (below_next HX6.out hb); have HT := Lib.hid ht; clear ht hb HY6 HX6) | (go_at_call 55; refine (field_next w9a w.heap.size w.heap.size B (((((([] ++ F1) ++ P8) ++ Z8) ++ Z8) ++ S12) ++ Z12) E8 148 364 8 156 356 vt _ (Nat.le_refl _) HB.out HY.out.1 HY.out.2 HT.out HL.out.2.2.2.2.2.1 (by decide) rfl rfl (by decide)).mono ?_; rintro e w9b ⟨rfl, hl, hb⟩; have HY7 := Lib.hid hl; have HX7 := Lib.hid (HX.out.trans hb); clear hl hb HY HX HT))
  go_upto_region 11 with (first | (go_at_call 45; refine (TK1.out _).mono ?_; rintro e w10a ⟨vt, rfl, ht, hb⟩; have HY := Lib.hid (And.intro (laying_below HY7.out.1 hb) HY7.out.2); have HX := Lib.hid (below_next HX7.out hb); have HT := Lib.hid ht; clear ht hb HY7 HX7) | (go_at_call 55; refine (field_next w10a w.heap.size w.heap.size B ((((((([] ++ F1) ++ P8) ++ Z8) ++ Z8) ++ S12) ++ Z12) ++ E8) K1 156 356 1 157 355 vt _ (Nat.le_refl _) HB.out HY.out.1 HY.out.2 HT.out HL.out.2.2.2.2.2.2.1 (by decide) rfl rfl (by decide)).mono ?_; rintro e w10b ⟨rfl, hl, hb⟩; have HY8 := Lib.hid hl; have HX8 := Lib.hid (HX.out.trans hb); clear hl hb HY HX HT))
  go_upto_region 12 with (first | (go_at_call 45; refine (TE100.out _).mono ?_; rintro e w11a ⟨vt, rfl, ht, hb⟩; have HY := Lib.hid (And.intro (laying_below HY8.out.1 hb) HY8.out.2); have HX := Lib.hid (below_next HX8.out hb); have HT := Lib.hid ht; clear ht hb HY8 HX8) | (go_at_call 55; refine (field_next w11a w.heap.size w.heap.size B (((((((([] ++ F1) ++ P8) ++ Z8) ++ Z8) ++ S12) ++ Z12) ++ E8) ++ K1) E100 157 355 100 257 255 vt _ (Nat.le_refl _) HB.out HY.out.1 HY.out.2 HT.out HL.out.2.2.2.2.2.2.2.1 (by decide) rfl rfl (by decide)).mono ?_; rintro e w11b ⟨rfl, hl, hb⟩; have HY9 := Lib.hid hl; have HX9 := Lib.hid (HX.out.trans hb); clear hl hb HY HX HT))
  go_upto_region 13 with (first | (go_at_call 45; refine (TM6.out _).mono ?_; rintro e w12a ⟨vt, rfl, ht, hb⟩; have HY := Lib.hid (And.intro (laying_below HY9.out.1 hb) HY9.out.2); have HX := Lib.hid (below_next HX9.out hb); have HT := Lib.hid ht; clear ht hb HY9 HX9) | (go_at_call 55; refine (field_next w12a w.heap.size w.heap.size B ((((((((([] ++ F1) ++ P8) ++ Z8) ++ Z8) ++ S12) ++ Z12) ++ E8) ++ K1) ++ E100) M6 257 255 6 263 249 vt _ (Nat.le_refl _) HB.out HY.out.1 HY.out.2 HT.out HL.out.2.2.2.2.2.2.2.2.1 (by decide) rfl rfl (by decide)).mono ?_; rintro e w12b ⟨rfl, hl, hb⟩; have HY10 := Lib.hid hl; have HX10 := Lib.hid (HX.out.trans hb); clear hl hb HY HX HT))
  go_upto_region 14 with (first | (go_at_call 45; refine (TV2.out _).mono ?_; rintro e w13a ⟨vt, rfl, ht, hb⟩; have HY := Lib.hid (And.intro (laying_below HY10.out.1 hb) HY10.out.2); have HX := Lib.hid (below_next HX10.out hb); have HT := Lib.hid ht; clear ht hb HY10 HX10) | (go_at_call 55; refine (field_next w13a w.heap.size w.heap.size B (((((((((([] ++ F1) ++ P8) ++ Z8) ++ Z8) ++ S12) ++ Z12) ++ E8) ++ K1) ++ E100) ++ M6) V2 263 249 2 265 247 vt _ (Nat.le_refl _) HB.out HY.out.1 HY.out.2 HT.out HL.out.2.2.2.2.2.2.2.2.2.1 (by decide) rfl rfl (by decide)).mono ?_; rintro e w13b ⟨rfl, hl, hb⟩; have HY11 := Lib.hid hl; have HX11 := Lib.hid (HX.out.trans hb); clear hl hb HY HX HT))
  go_upto_region 15 with (first | (go_at_call 45; refine (TE32.out _).mono ?_; rintro e w14a ⟨vt, rfl, ht, hb⟩; have HY := Lib.hid (And.intro (laying_below HY11.out.1 hb) HY11.out.2); have HX := Lib.hid (below_next HX11.out hb); have HT := Lib.hid ht; clear ht hb HY11 HX11) | (go_at_call 55; refine (field_next w14a w.heap.size w.heap.size B ((((((((((([] ++ F1) ++ P8) ++ Z8) ++ Z8) ++ S12) ++ Z12) ++ E8) ++ K1) ++ E100) ++ M6) ++ V2) E32 265 247 32 297 215 vt _ (Nat.le_refl _) HB.out HY.out.1 HY.out.2 HT.out HL.out.2.2.2.2.2.2.2.2.2.2.1 (by decide) rfl rfl (by decide)).mono ?_; rintro e w14b ⟨rfl, hl, hb⟩; have HY12 := Lib.hid hl; have HX12 := Lib.hid (HX.out.trans hb); clear hl hb HY HX HT))
  go_upto_region 16 with (first | (go_at_call 45; refine (TE32.out _).mono ?_; rintro e w15a ⟨vt, rfl, ht, hb⟩; have HY := Lib.hid (And.intro (laying_below HY12.out.1 hb) HY12.out.2); have HX := Lib.hid (below_next HX12.out hb); have HT := Lib.hid ht; clear ht hb HY12 HX12) | (go_at_call 55; refine (field_next w15a w.heap.size w.heap.size B (((((((((((([] ++ F1) ++ P8) ++ Z8) ++ Z8) ++ S12) ++ Z12) ++ E8) ++ K1) ++ E100) ++ M6) ++ V2) ++ E32) E32 297 215 32 329 183 vt _ (Nat.le_refl _) HB.out HY.out.1 HY.out.2 HT.out HL.out.2.2.2.2.2.2.2.2.2.2.1 (by decide) rfl rfl (by decide)).mono ?_; rintro e w15b ⟨rfl, hl, hb⟩; have HY13 := Lib.hid hl; have HX13 := Lib.hid (HX.out.trans hb); clear hl hb HY HX HT))
  go_upto_region 17 with (first | (go_at_call 46; refine (TZ8.out _).mono ?_; rintro e w16a ⟨vt, rfl, ht, hb⟩; have HY := Lib.hid (And.intro (laying_below HY13.out.1 hb) HY13.out.2); have HX := Lib.hid (below_next HX13.out hb); have HT := Lib.hid ht; clear ht hb HY13 HX13) | (go_at_call 55; refine (field_next w16a w.heap.size w.heap.size B ((((((((((((([] ++ F1) ++ P8) ++ Z8) ++ Z8) ++ S12) ++ Z12) ++ E8) ++ K1) ++ E100) ++ M6) ++ V2) ++ E32) ++ E32) Z8 329 183 8 337 175 vt _ (Nat.le_refl _) HB.out HY.out.1 HY.out.2 HT.out HL.out.2.2.1 (by decide) rfl rfl (by decide)).mono ?_; rintro e w16b ⟨rfl, hl, hb⟩; have HY14 := Lib.hid hl; have HX14 := Lib.hid (HX.out.trans hb); clear hl hb HY HX HT))
  go_upto_region 18 with (first | (go_at_call 46; refine (TZ8.out _).mono ?_; rintro e w17a ⟨vt, rfl, ht, hb⟩; have HY := Lib.hid (And.intro (laying_below HY14.out.1 hb) HY14.out.2); have HX := Lib.hid (below_next HX14.out hb); have HT := Lib.hid ht; clear ht hb HY14 HX14) | (go_at_call 55; refine (field_next w17a w.heap.size w.heap.size B (((((((((((((([] ++ F1) ++ P8) ++ Z8) ++ Z8) ++ S12) ++ Z12) ++ E8) ++ K1) ++ E100) ++ M6) ++ V2) ++ E32) ++ E32) ++ Z8) Z8 337 175 8 345 167 vt _ (Nat.le_refl _) HB.out HY.out.1 HY.out.2 HT.out HL.out.2.2.1 (by decide) rfl rfl (by decide)).mono ?_; rintro e w17b ⟨rfl, hl, hb⟩; have HY15 := Lib.hid hl; have HX15 := Lib.hid (HX.out.trans hb); clear hl hb HY HX HT))
  go_upto_region 19 with (first | (go_at_call 45; refine (TF155.out _).mono ?_; rintro e w18a ⟨vt, rfl, ht, hb⟩; have HY := Lib.hid (And.intro (laying_below HY15.out.1 hb) HY15.out.2); have HX := Lib.hid (below_next HX15.out hb); have HT := Lib.hid ht; clear ht hb HY15 HX15) | (go_at_call 55; refine (field_next w18a w.heap.size w.heap.size B ((((((((((((((([] ++ F1) ++ P8) ++ Z8) ++ Z8) ++ S12) ++ Z12) ++ E8) ++ K1) ++ E100) ++ M6) ++ V2) ++ E32) ++ E32) ++ Z8) ++ Z8) F155 345 167 155 500 12 vt _ (Nat.le_refl _) HB.out HY.out.1 HY.out.2 HT.out HL.out.2.2.2.2.2.2.2.2.2.2.2.1 (by decide) rfl rfl (by decide)).mono ?_; rintro e w18b ⟨rfl, hl, hb⟩; have HY16 := Lib.hid hl; have HX16 := Lib.hid (HX.out.trans hb); clear hl hb HY HX HT))
  have HZ := Lib.hid (show Laying w18b w.heap.size B (A ++ (E8 ++ C)) 500 12 12 by rw [← HE.out]; exact HY16.out.1)
  clear HY16 HE
  go_upto_region 20 with (first | (go_at_call 44; refine (layer_any w18b ⟨w.heap.size, 148, none⟩ 8 364).mono ?_; rintro e w2 ⟨rfl, rfl⟩))
  obtain ⟨w2, hw2⟩ : ∃ w2, w2 = w18b.alloc (.cells #[.slice (some ⟨w.heap.size, 148, none⟩) 8 364] 25 (0, 0)) := ⟨_, rfl⟩
  have HY := Lib.hid (show Laying w2 w.heap.size w18b.heap.size (A ++ (E8 ++ C)) 148 8 364 by
    have hlt := lt_of_block HZ.out.1
    refine ⟨?_, ?_, by omega⟩
    · rw [hw2, heap_at_alloc, if_neg (by omega)]; exact HZ.out.1
    · rw [hw2]; exact heap_last _ _)
  have HX := Lib.hid (show Below w.heap.size w w2 by rw [hw2]; exact HX16.out.alloc HX16.out.size _)
  have HB2 := Lib.hid (show w.heap.size ≤ w18b.heap.size from HX16.out.size)
  have HS := Lib.hid (show (A ++ (E8 ++ C)).length = 512 ∧ Q7.length = 7 ∧ splice (splice (A ++ (E8 ++ C)) 148 Q7) 155 [32] = A ++ (Q7 ++ ([32] ++ C)) ∧ (splice (A ++ (E8 ++ C)) 148 Q7).length = 512 ∧ (A ++ (Q7 ++ ([32] ++ C))).length = 512 by
    have lA := HL.out.2.2.2.2.2.2.2.2.2.2.2.2.1
    have lC := HL.out.2.2.2.2.2.2.2.2.2.2.2.2.2.1
    have lQ := HL.out.2.2.2.2.2.2.2.2.2.2.2.2.2.2.1
    have lE := HL.out.2.2.2.2.2.2.2.2.2.2.2.2.2.2.2
    obtain ⟨e1, e2⟩ := sum_laid A E8 C Q7 lA lE lQ
    refine ⟨by simp only [List.length_append, lA, lE, lC], lQ, e2, ?_, by simp only [List.length_append, lA, lQ, lC]; rfl⟩
    rw [e1]; simp only [List.length_append, List.length_drop, lA, lQ, lC, lE])
  rw [← hw2]
  clear hw2 HZ HX16 HB
  generalize w18b.heap.size = B2 at *
  go_upto_region 21 with (first | (go_at_call 47; refine (CK.out w2 _ (text_of_row HY.out.1 HS.out.1)).mono ?_; rintro e w3 ⟨rfl, hb⟩; have HY3 := Lib.hid (laying_below HY.out hb); have HX3 := Lib.hid (below_next HX.out hb); clear hb HY HX) | (go_at_call 46; refine (TS.out _).mono ?_; rintro e w4 ⟨vt, rfl, ht, hb⟩; have HY4 := Lib.hid (laying_below HY3.out hb); have HX4 := Lib.hid (below_next HX3.out hb); have HT := Lib.hid ht; clear ht hb HY3 HX3) | (go_at_call 55; refine (field_any w4 w.heap.size w.heap.size B2 _ Q7 148 8 364 vt _ (Nat.le_refl _) HB2.out HY4.out HT.out (fun h => by have := HS.out.2.1; rw [h] at this; simp at this) (by rw [HS.out.2.1]; decide) (by rw [HS.out.2.1]; decide) (by rw [HS.out.1]; decide)).mono ?_; rw [HS.out.2.1]; rintro e w5 ⟨rfl, hl, hb⟩; have HY5 := Lib.hid hl; have HX5 := Lib.hid (HX4.out.trans hb); clear hl hb HY4 HX4 HT))
  go_upto_region 22 with (first | (go_at_call 45; refine (TB.out _).mono ?_; rintro e w6 ⟨vt, rfl, ht, hb⟩; have HY6 := Lib.hid (laying_below HY5.out hb); have HX6 := Lib.hid (below_next HX5.out hb); have HT := Lib.hid ht; clear ht hb HY5 HX5) | (go_at_call 55; refine (field_any w6 w.heap.size w.heap.size B2 _ [32] 155 1 357 vt _ (Nat.le_refl _) HB2.out HY6.out HT.out (by simp) (by simp) (by simp) (by rw [HS.out.2.2.2.1]; decide)).mono ?_; rintro e w7 ⟨rfl, hl, hb⟩; have HY7 := Lib.hid hl; have HX7 := Lib.hid (HX6.out.trans hb); clear hl hb HY6 HX6 HT))
  go_wp2
  go_ret
  have hr := HY7.out.1
  rw [HS.out.2.2.1] at hr
  refine ⟨_, rfl, ?_, HX7.out⟩
  rw [HW.out]
  refine ⟨text_of_row hr HS.out.2.2.2.2, fun ad n cap e => ?_⟩
  cases e
  refine ⟨Nat.le_refl _, rfl, fun k _ => ?_⟩
  rw [Addr.add_lit]
  simp [World.frozen?, hr]
end Go.Proofs.YtocpplnnnflekaaDoor
namespace Go.Proofs.YtocpplnnnflekaaDoor
open Go.RowKit
set_option maxRecDepth 100000 in
set_option maxHeartbeats 4000000 in
theorem trimByte_any (b : List UInt8) (ao : Option Addr) (n cap : Nat) (hnb : n = b.length) (hn : n < 4611686018427387904) (w : World) (hv : HasText w (.slice ao n cap) b) : Calls Tryd.prog 58 #[.slice ao n cap, .int .u8 0] w fun e w' => ∃ k, e = .returned (.slice ao k cap) ∧ w = w' ∧ k ≤ n ∧ (∀ j, k ≤ j → j < n → b.getD j 0 = 0) ∧ (k = 0 ∨ b.getD (k - 1) 0 ≠ 0) := by
  have HV := Lib.hid hv
  have HN := Lib.hid (And.intro hnb hn)
  clear hv hnb hn
  go_enter Tryd.func58, Tryd.ntmps58
  go_wp2
  go_loopw [0] (fun v wr => wr = w ∧ ∃ k : Nat, k ≤ n ∧ v = .slice ao k cap ∧ ∀ j, k ≤ j → j < n → b.getD j 0 = 0) (fun v _ => match v with | .slice _ l _ => l | _ => 0)
  case atStart => exact ⟨rfl, n, by omega, rfl, fun j h1 h2 => by omega⟩
  case round =>
    obtain ⟨rfl, k, hk, rfl, hall⟩ := hrel
    have HA := Lib.hid hall
    clear hall
    by_cases h0 : k = 0
    · have d1 : decide ((k : Int) > 0) = false := decide_eq_false (by omega)
      go_wp2
      go_ret
      exact ⟨k, rfl, rfl, hk, HA.out, .inl h0⟩
    · obtain ⟨p, hp⟩ : ∃ p : Nat, p = k - 1 := ⟨_, rfl⟩
      have d1 : decide ((k : Int) > 0) = true := decide_eq_true (by omega)
      have e1 : (k : Int) - 1 = (p : Int) := by omega
      have e2 : wrap64 (p : Int) = (p : Int) := by have := HN.out; rw [wrap64]; omega
      have e3 : IntKind.i64.wrap (p : Int) = (p : Int) := by have := HN.out; rw [IntKind.wrap_i64]; omega
      have q0 : (p : Int) < (k : Int) := by omega
      have hpk : p + 1 = k := by omega
      have HP := Lib.hid hpk
      have HK := Lib.hid (And.intro hk h0)
      obtain ⟨ad, c, rfl, hc, hcd, c0⟩ := text_at HV.out p (by have := HN.out; omega)
      have qc : (p : Int) ≤ (cap : Int) := by have := text_cap HV.out; omega
      obtain ⟨x, hx⟩ : ∃ x : Nat, x = c.toNat := ⟨_, rfl⟩
      have HX := Lib.hid hx
      rw [← hx] at c0
      have HC := Lib.hid hcd
      clear hc hcd hx hp hpk h0 hk
      by_cases hz : x = 0
      · subst hz
        go_wp2
        go_roundw
        case rel => exact ⟨trivial, p, by have := HK.out; have := HP.out; omega, rfl, fun j h1 h2 => by
          rcases Nat.lt_or_ge j k with h | h
          · obtain rfl : j = p := by have := HP.out; omega
            rw [HC.out]; exact UInt8.toNat_inj.1 HX.out.symm
          · exact HA.out j h h2⟩
        case measure => have := HP.out; simp; omega
      · have d2 : ((x : Int) == 0) = false := by simp; omega
        have HZ := Lib.hid hz
        clear hz
        go_wp2
        go_ret
        exact ⟨k, rfl, rfl, HK.out.1, HA.out, .inr (by
          rw [show k - 1 = p from by have := HP.out; omega, HC.out]; intro h; rw [h] at HX; exact HZ.out HX.out)⟩
set_option maxRecDepth 100000 in
set_option maxHeartbeats 4000000 in
theorem trim_any (b : List UInt8) (ao : Option Addr) (n cap : Nat) (hnb : n = b.length) (hn : n < 4611686018427387904) (w : World) (hv : HasText w (.slice ao n cap) b) : Calls Tryd.prog 51 #[.slice ao n cap, .string ⟨#[0]⟩] w fun e w' => ∃ k, e = .returned (.slice ao k cap) ∧ w = w' ∧ k ≤ n ∧ (∀ j, k ≤ j → j < n → b.getD j 0 = 0) ∧ (k = 0 ∨ b.getD (k - 1) 0 ≠ 0) := by
  have T := Lib.hid (fun w hv => trimByte_any b ao n cap hnb hn w hv)
  have HV := Lib.hid hv
  clear hv hnb hn
  by_cases h0 : n = 0
  · have d1 : ((n : Int) == 0) = true := by simp; omega
    go_enter Tryd.func51, Tryd.ntmps51
    go_wp2
    go_ret
    exact ⟨n, rfl, rfl, Nat.le_refl _, fun j h1 h2 => by omega, .inl h0⟩
  · have d1 : ((n : Int) == 0) = false := by simp; omega
    clear h0
    obtain ⟨S, hS⟩ : ∃ S : ByteArray, S = ⟨#[0]⟩ := ⟨_, rfl⟩
    rw [← hS]
    have s1 : S.size = 1 := by rw [hS]; rfl
    have s2 : S.toList.isEmpty = false := by rw [hS, show (⟨#[0]⟩ : ByteArray).toList = [0] from str_toList [0]]; rfl
    have s3 : ∀ w, (Instr.index 9 (.string S) (.int .i64 0)).run Tryd.prog w = .ok (.int .u8 0) w := fun w => by
      rw [hS]; exact index_str (P := Tryd.prog) w [0] .i64 0 0 rfl Tryd.underlying9
    clear hS
    go_enter Tryd.func51, Tryd.ntmps51
    go_wp2_with (first | (go_at_call 58; refine (T.out _ HV.out).mono ?_; rintro e w1 ⟨k, rfl, rfl, hk1, hk2, hk3⟩; have HK := Lib.hid (And.intro hk1 (And.intro hk2 hk3)); clear hk1 hk2 hk3))
    go_ret
    exact ⟨k, rfl, rfl, HK.out.1, HK.out.2.1, HK.out.2.2⟩
theorem name_facts (b : List UInt8) (k : Nat) (hk : k ≤ b.length) (hz : ∀ j, k ≤ j → j < b.length → b.getD j 0 = 0) (hl : k = 0 ∨ b.getD (k - 1) 0 ≠ 0) :
    ((b.take k).contains 0 = false → nameT b = b.take k ∧ nameErr b = 0) ∧ ((b.take k).contains 0 = true → nameT b = [] ∧ nameErr b = 2) := by
  have take_at : ∀ j, j < k → (b.take k)[j]? = some (b.getD j 0) := fun j hj => by
    rw [List.getElem?_take, if_pos hj, List.getD_eq_getElem?_getD, List.getElem?_eq_getElem (by omega)]; rfl
  constructor
  · intro hc
    refine isName_of b k hk (fun j hj h => ?_) (fun h => hz k (Nat.le_refl k) h) hz
    have h1 := List.contains_iff_mem.2 (List.mem_of_getElem? (take_at j hj))
    rw [h, hc] at h1; cases h1
  · intro hc
    have hne : Lib.indexByte (b.take k) 0 ≠ -1 := fun h => by
      obtain ⟨j, hj, e⟩ := List.mem_iff_getElem.1 (List.contains_iff_mem.1 hc)
      exact Lib.indexByte_none h j (by rw [List.getElem?_eq_getElem hj, e])
    have hge := Lib.indexByte_ge (b.take k) 0
    obtain ⟨o, ho⟩ : ∃ o : Nat, Lib.indexByte (b.take k) 0 = (o : Int) := ⟨(Lib.indexByte (b.take k) 0).toNat, by omega⟩
    obtain ⟨h1, h2⟩ := Lib.indexByte_some ho
    have hok : o < k := by
      have := (List.getElem?_eq_some_iff.1 h1).1
      rw [List.length_take] at this; omega
    refine isName_bad b o (k - 1) (by omega) (by omega) (fun j hj h => h2 j hj (by rw [take_at j (by omega), h])) (fun _ => ?_) (hl.resolve_left (by omega))
    rw [take_at o hok] at h1; exact Option.some.inj h1
theorem index_text {w : World} {ao : Option Addr} {k cap : Nat} {l : List UInt8} (h : HasText w (.slice ao k cap) l) : ∃ z, (decide (z ≥ 0) = l.contains 0) ∧ Calls Tryd.prog 52 #[.slice ao k cap, .int .u8 0] w fun e w' => e = .returned (.int .i64 z) ∧ w = w' := by
  obtain ⟨z, hz, hzc⟩ := index_zero l
  rw [show (str l).data.toList = l from by simp [str]] at hz
  refine ⟨z, hzc, ?_⟩
  obtain ⟨ao', cap', e, hnil, hc⟩ := h
  cases e
  cases ao with
  | none =>
    obtain ⟨hl, rfl⟩ := hnil rfl
    obtain rfl : l = [] := by simpa using hl
    refine (Tryd.bytes_IndexByte_nil 0 w).mono fun e w' h => ⟨?_, h.2.symm⟩
    rw [h.1, ← hz]; rfl
  | some ad =>
    have hl : (l.map w8).length = l.length := List.length_map _
    have hb : Lib.bytesOf (l.map fun c => (c.toNat : Int)) = l := by simp [Lib.bytesOf, Function.comp_def]
    refine (Tryd.bytes_IndexByte_at ad _ cap (l.map fun c => (c.toNat : Int)) 0 w (by simp) fun i hi => ?_).mono fun e w' h => ⟨?_, h.2.symm⟩
    · refine (hc ad rfl).2 i _ ?_
      rw [hl] at hi
      rw [bytesL_map]
      simp [hi]
    · rw [h.1, hb, hz]
set_option maxRecDepth 100000 in
set_option maxHeartbeats 4000000 in
theorem name_any (b : List UInt8) (hb : b.length < 4611686018427387904) (v : Value) (w : World) (hv : HasText w v b) : Calls Tryd.prog 36 #[v] w fun e w' => e = .returned (.tuple #[.string (str (nameT b)), .int .i64 (nameErr b)]) ∧ Below w.heap.size w w' := by
  have HV := Lib.hid hv
  obtain ⟨ao, cap, rfl, -⟩ := hv
  obtain ⟨n, hn⟩ : ∃ n, n = (b.map w8).length := ⟨_, rfl⟩
  rw [← hn] at HV ⊢
  have hnl : n = b.length := by rw [hn, List.length_map]
  have HN := Lib.hid hnl
  have T := Lib.hid (trim_any b ao n cap hnl (by omega) w HV.out)
  clear hn hnl hb
  go_enter Tryd.func36, Tryd.ntmps36
  go_upto_region 2 with (first | (go_at_call 51; refine T.out.mono ?_; rintro e w1 ⟨k, rfl, rfl, hk1, hk2, hk3⟩; have HK := Lib.hid (And.intro hk1 (And.intro hk2 hk3)); clear hk1 hk2 hk3))
  have HT := Lib.hid (text_take HV.out k (by rw [← HN.out]; exact HK.out.1))
  obtain ⟨z, hz, hI⟩ := index_text HT.out
  have I := Lib.hid hI
  obtain ⟨g1, g2⟩ := name_facts b k (by rw [← HN.out]; exact HK.out.1) (by rw [← HN.out]; exact HK.out.2.1) HK.out.2.2
  have hcv := conv_text Tryd.underlying25 Tryd.underlying5 Tryd.underlying9 HT.out
  obtain ⟨B, hB⟩ : ∃ B, B = (b.take k).contains 0 := ⟨_, rfl⟩
  rw [← hB] at hz g1 g2
  clear hB hI
  cases B with
  | false =>
    have HF := Lib.hid (g1 rfl)
    clear g1 g2
    go_wp2_with (first | (go_at_call 52; refine I.out.mono ?_; rintro e w1 ⟨rfl, rfl⟩))
    go_ret2
    rw [HF.out.1, HF.out.2]
    exact ⟨rfl, Below.refl _ _⟩
  | true =>
    have HF := Lib.hid (g2 rfl)
    clear g1 g2 hcv
    go_wp2_with (first | (go_at_call 52; refine I.out.mono ?_; rintro e w1 ⟨rfl, rfl⟩))
    go_ret2
    rw [HF.out.1, HF.out.2]
    exact ⟨rfl, Below.refl _ _⟩
end Go.Proofs.YtocpplnnnflekaaDoor
namespace Go.Proofs.YtocpplnnnflekaaDoor
theorem nameFace : NameFace where
  name := fun w v b hb hv => name_any b hb v w hv
end Go.Proofs.YtocpplnnnflekaaDoor
namespace Go.Proofs.YtocpplnnnflekaaDoor
open Go.RowKit
def dF (i : Nat) : BitVec 32 := if i = 0 then 255#32 else 0#32
theorem slice_to {P : Program} (w : World) (t : TypeId) (l : List UInt8) (n : Nat) (hn : n ≤ l.length) (ht : P.underlying t = some .string) : (Instr.slice t (.string (str l)) none (some (.int .i64 (n : Int))) none).run P w = .ok (.string (str (l.take n))) w := by
  rw [run_slice_string_h w t (str l) ht .i64 n (by omega) (by rw [str_size]; omega)]
  have e : (str l).extract 0 (n : Int).toNat = str (l.take n) := by
    unfold str; rw [ByteArray.extract_mk]; simp
  rw [e]
end Go.Proofs.YtocpplnnnflekaaDoor
namespace Go.Proofs.YtocpplnnnflekaaDoor
open Go.RowKit
/-- Pieces, each with the place where it begins. -/
def marksAt (f : Nat) : List (List UInt8) → List (Nat × List UInt8)
  | [] => []
  | p :: ps => (f, p) :: marksAt (f + p.length + 1) ps
def marks (s : List UInt8) : List (Nat × List UInt8) := marksAt 0 (pieces s)
theorem marksAt_snd (f : Nat) (ps : List (List UInt8)) : (marksAt f ps).map (·.2) = ps := by
  induction ps generalizing f with
  | nil => rfl
  | cons p ps ih => rw [marksAt, List.map_cons, ih]
theorem marks_snd (s : List UInt8) : (marks s).map (·.2) = pieces s := marksAt_snd 0 _
/-- The places of the bytes /. -/
def slashes (f : Nat) : List UInt8 → List Nat
  | [] => []
  | c :: t => if c = 47 then f :: slashes (f + 1) t else slashes (f + 1) t
theorem marksAt_fst (f : Nat) (s : List UInt8) : (marksAt f (pieces s)).map (·.1) = f :: (slashes f s).map (· + 1) := by
  induction s generalizing f with
  | nil => rfl
  | cons c t ih =>
    rw [pieces, slashes]
    by_cases h : c = 47
    · rw [if_pos h, if_pos h, marksAt, List.map_cons, List.length_nil, Nat.add_zero, ih (f + 1), List.map_cons]
    · rw [if_neg h, if_neg h]
      have ih := ih (f + 1)
      cases hp : pieces t with
      | nil => exact absurd hp (pieces_ne t)
      | cons p ps =>
        rw [hp, marksAt, List.map_cons, List.cons.injEq] at ih
        simp only [marksAt, List.map_cons, List.length_cons, List.cons.injEq, true_and]
        rw [show f + (p.length + 1) + 1 = f + 1 + p.length + 1 from by omega, ih.2]
theorem marks_fst (s : List UInt8) : (marks s).map (·.1) = 0 :: (slashes 0 s).map (· + 1) := marksAt_fst 0 s
theorem slashes_ge (s : List UInt8) : ∀ f, ∀ j ∈ slashes f s, f ≤ j := by
  induction s with
  | nil => intro f j hj; cases hj
  | cons c t ih =>
    intro f j hj
    rw [slashes] at hj
    by_cases h : c = 47
    · rw [if_pos h] at hj
      rcases List.mem_cons.1 hj with rfl | hj
      · exact Nat.le_refl _
      · have := ih _ _ hj; omega
    · rw [if_neg h] at hj; have := ih _ _ hj; omega
theorem slashes_sorted (s : List UInt8) : ∀ f, (slashes f s).Pairwise (· < ·) := by
  induction s with
  | nil => intro f; exact List.Pairwise.nil
  | cons c t ih =>
    intro f
    rw [slashes]
    by_cases h : c = 47
    · rw [if_pos h]; exact List.Pairwise.cons (fun j hj => by have := slashes_ge t _ _ hj; omega) (ih _)
    · rw [if_neg h]; exact ih _
theorem slashes_mem (s : List UInt8) : ∀ f j, j < s.length → s.getD j 0 = 47 → f + j ∈ slashes f s := by
  induction s with
  | nil => intro f j hj; simp at hj
  | cons c t ih =>
    intro f j hj hs
    rw [slashes]
    cases j with
    | zero => rw [if_pos (by simpa using hs)]; simp
    | succ j =>
      have := ih (f + 1) j (by simpa using hj) (by simpa using hs)
      rw [show f + 1 + j = f + (j + 1) from by omega] at this
      by_cases h : c = 47
      · rw [if_pos h]; exact List.mem_cons.2 (.inr this)
      · rw [if_neg h]; exact this
/-- A place ahead of which all are too far from the end: the first that isn't. -/
theorem cut_at {s : List UInt8} {pre rest : List Nat} {x : Nat} (h : (marks s).map (·.1) = pre ++ x :: rest) (hx : 0 < x) (hxs : x ≤ s.length) (hsl : s.getD (x - 1) 0 = 47) (hall : ∀ y ∈ pre, 100 < s.length - y) (hn : s.length - x ≤ 100) : cutI s = some (x - 1) := by
  refine cut_of (by omega) hsl (by omega) fun j hj h47 => ?_
  have hm : j + 1 ∈ pre ++ x :: rest := by
    rw [← h, marks_fst]
    exact List.mem_cons.2 (.inr (List.mem_map.2 ⟨j, by have := slashes_mem s 0 j (by omega) h47; rwa [Nat.zero_add] at this, rfl⟩))
  have hp : (pre ++ x :: rest).Pairwise (· < ·) := by
    rw [← h, marks_fst]
    refine List.Pairwise.cons (fun j hj => ?_) ?_
    · obtain ⟨i, _, rfl⟩ := List.mem_map.1 hj; omega
    · exact List.pairwise_map.2 ((slashes_sorted s 0).imp fun h => by omega)
  rcases List.mem_append.1 hm with h1 | h1
  · have := hall _ h1; omega
  · rcases List.mem_cons.1 h1 with h1 | h1
    · omega
    · have := (List.pairwise_cons.1 (List.pairwise_append.1 hp).2.1).1 _ h1
      omega
theorem cut_nowhere {s : List UInt8} (hall : ∀ y ∈ (marks s).map (·.1), 100 < s.length - y) : cutI s = none := cut_no fun j hj h47 => by
  have := hall (j + 1) (by
    rw [marks_fst]
    exact List.mem_cons.2 (.inr (List.mem_map.2 ⟨j, by have := slashes_mem s 0 j hj h47; rwa [Nat.zero_add] at this, rfl⟩)))
  omega
/-- A piece with its place, as a function that goes through them hands it on. -/
abbrev Pm (s : List UInt8) := { x : Nat × List UInt8 // x.1 ≤ s.length ∧ (0 < x.1 → s.getD (x.1 - 1) 0 = 47) ∧ x.2.length ≤ s.length }
/-- What a search for / in the rest of a text finds. -/
theorem index_cut (s : List UInt8) (f : Nat) (hf : f ≤ s.length) :
    (Lib.indexByte (str (s.drop f)).data.toList ((47 : Int).toNat.toUInt8) = -1 ∧ marksAt f (pieces (s.drop f)) = [(f, s.drop f)]) ∨
    ∃ o : Nat, Lib.indexByte (str (s.drop f)).data.toList ((47 : Int).toNat.toUInt8) = (o : Int) ∧ f + o < s.length ∧ s.getD (f + o) 0 = 47 ∧
      marksAt f (pieces (s.drop f)) = (f, (s.take (f + o)).drop f) :: marksAt (f + o + 1) (pieces (s.drop (f + o + 1))) := by
  rw [show (str (s.drop f)).data.toList = s.drop f from by simp [str], show (47 : Int).toNat.toUInt8 = 47 from rfl]
  have hge := Lib.indexByte_ge (s.drop f) 47
  by_cases h : Lib.indexByte (s.drop f) 47 = -1
  · refine .inl ⟨h, ?_⟩
    rw [pieces_end _ fun c hc e => ?_]
    · rfl
    · subst e
      obtain ⟨k, hk, e⟩ := List.mem_iff_getElem.1 hc
      exact absurd (by rw [List.getElem?_eq_getElem hk, e]) (Lib.indexByte_none h k)
  · obtain ⟨o, ho⟩ : ∃ o : Nat, Lib.indexByte (s.drop f) 47 = (o : Int) := ⟨(Lib.indexByte (s.drop f) 47).toNat, by omega⟩
    obtain ⟨h1, h2⟩ := Lib.indexByte_some ho
    have hol : o < (s.drop f).length := (List.getElem?_eq_some_iff.1 h1).1
    have hd : (s.drop f).getD o 0 = 47 := by rw [List.getD_eq_getElem?_getD, h1]; rfl
    refine .inr ⟨o, ho, by rw [List.length_drop] at hol; omega, ?_, ?_⟩
    · rw [List.getElem?_drop] at h1
      rw [List.getD_eq_getElem?_getD, h1]; rfl
    · have e : s.drop f = (s.drop f).take o ++ 47 :: (s.drop f).drop (o + 1) := take_slash hol hd
      have e2 : (s.drop f).take o = (s.take (f + o)).drop f := by rw [List.drop_take]; congr 1; omega
      have e3 : (s.drop f).drop (o + 1) = s.drop (f + o + 1) := by rw [List.drop_drop]; congr 1
      have hno : ∀ c ∈ (s.drop f).take o, c ≠ 47 := fun c hc e => by
        subst e
        obtain ⟨k, hk, e⟩ := List.mem_iff_getElem.1 hc
        have hko : k < o := by rw [List.length_take] at hk; omega
        refine h2 k hko ?_
        have := List.getElem?_eq_getElem hk
        rw [e, List.getElem?_take, if_pos hko] at this
        exact this
      have hlen : ((s.take (f + o)).drop f).length = o := by rw [← e2, List.length_take]; omega
      rw [e2] at hno
      conv => lhs; rw [e, e2, e3, pieces_slash _ _ hno, marksAt, hlen]
end Go.Proofs.YtocpplnnnflekaaDoor
namespace Go.Proofs.YtocpplnnnflekaaDoor
open Go.RowKit Go.Shelf
attribute [local go_sem] Oper.semAt_some
theorem seq_wraps (f o m K O G : Nat) (h : f + o < m) (hm : m < 4611686018427387904) (hK : K = f + o) (hO : O = o + 1) (hG : G = f + o + 1) : wrap64 ((f : Int) + (o : Int)) = (K : Int) ∧ wrap64 ((o : Int) + 1) = (O : Int) ∧ wrap64 ((f : Int) + (O : Int)) = (G : Int) ∧ decide ((o : Int) < 0) = false := by
  refine ⟨?_, ?_, ?_, decide_eq_false (by omega)⟩ <;> rw [wrap64] <;> omega
/-- The rest of a text from a place on. -/
theorem slice_from {P : Program} (w : World) (t : TypeId) (s : List UInt8) (f : Nat) (hf : f ≤ s.length) (ht : P.underlying t = some .string) :
    (Instr.slice t (.string (str s)) (some (.int .i64 (f : Int))) none none).run P w = .ok (.string (str (s.drop f))) w := by
  have h := run_slice_string_l w t (str s) ht .i64 f (by omega) (by rw [str_size]; omega)
  have e : (str s).extract (f : Int).toNat (str s).size = str (s.drop f) := by
    rw [str_size]; unfold str; rw [ByteArray.extract_mk, List.take_of_length_le (by simp)]; simp
  rw [e] at h; exact h
theorem mid_le (s : List UInt8) (a b : Nat) : ((s.take a).drop b).length ≤ s.length := by rw [List.length_drop, List.length_take]; omega
theorem slash_ahead {s : List UInt8} {x : Nat} (h : s.getD x 0 = 47) : 0 < x + 1 → s.getD (x + 1 - 1) 0 = 47 := fun _ => h
theorem measure_up7 (m f g : Nat) (h : f < g) (h' : g ≤ m) : m - (intOf (.int .i64 (g : Int))).toNat < m - (intOf (.int .i64 (f : Int))).toNat := by
  simp only [intOf, Int.toNat_natCast]; omega
/-- What a round must leave to the function that is ranged over: the cell of its text. -/
def KeepBox (B : Nat) (W W' : World) : Prop := W'.cell? ⟨B, 0, none⟩ = W.cell? ⟨B, 0, none⟩
theorem keepBox_t {B : Nat} {X Y Z : World} (h : KeepBox B X Y) (k : KeepBox B Y Z) : KeepBox B X Z := Eq.trans k h
theorem keepBox_b {B n : Nat} (hB : B < n) (W : World) (l : Nat) (o o' : Obj) (hl : n ≤ l) (h : W.heap[l]? = some o) (_ : o.isCells = false) (_ : o.isWalk = false) : KeepBox B W (W.putObj l o') :=
  ((Below.refl (B + 1) W).grown (grownBy_putObj' W l o') (by have := (Array.getElem?_eq_some_iff.1 h).1; omega) (fun k e => by cases e; omega)).cell (p := ⟨B, 0, none⟩) (by show B < B + 1; omega)
set_option maxRecDepth 100000 in
set_option maxHeartbeats 4000000 in
theorem seq_in (n : Nat) (hn : 1 ≤ n) (l Bn : Nat) (s : List UInt8) (hs : s.length < 4611686018427387904) (J Jx : List (Pm s) → World → Prop)
    (hY : ∀ pre x W, J pre W → pre.length < s.length + 1 → YieldAt Fence.wide (n - 1) Tryd.prog l #[.int .i64 (x.1.1 : Int), .string (str x.1.2)] W fun e W' =>
      (e = .returned (.bool true) ∧ J (pre ++ [x]) W' ∧ KeepBox Bn W W') ∨ (e = .returned (.bool false) ∧ Jx (pre ++ [x]) W'))
    (W : World) (hBn : W.cell? ⟨Bn, 0, none⟩ = some (.string (str s))) (h0 : J [] W) :
    CallsIn Fence.wide n Tryd.prog 64 #[.func (.yield l) #[] #[], .pointer (some ⟨Bn, 0, none⟩)] W fun e W' => (∃ v, e = .returned v) ∧
      ((∃ ys : List (Pm s), ys.map (·.1) = marks s ∧ J ys W') ∨ (∃ pre : List (Pm s), pre.map (·.1) <+: marks s ∧ Jx pre W')) := by
  obtain ⟨m, hm⟩ : ∃ m, m = s.length := ⟨_, rfl⟩
  have HM := Lib.hid hm
  rw [← hm] at hs
  have HMS := Lib.hid hs
  clear hm hs
  refine callsIn_of_wp Tryd.func64 rfl trivial ?_ rfl
  simp only [Tryd.ntmps64, List.size_toArray, List.length_cons, List.length_nil, Nat.reduceAdd, Nat.reduceSub, Array.replicate_succ, Array.replicate_zero, List.push_toArray, List.append_toArray, List.nil_append, List.cons_append]
  gi_wp2
  gi_loopw [3] (fun x wr => ∃ (f : Nat) (pre : List (Pm s)), f ≤ m ∧ x = .int .i64 f ∧ (0 < f → s.getD (f - 1) 0 = 47) ∧ pre.map (·.1) ++ marksAt f (pieces (s.drop f)) = marks s ∧ pre.length ≤ f ∧ J pre wr ∧ wr.cell? ⟨Bn, 0, none⟩ = some (.string (str s)))
    (fun x _ => m - (intOf x).toNat)
  case atStart => exact ⟨0, [], by omega, rfl, fun h => absurd h (by omega), rfl, Nat.le_refl _, h0, hBn⟩
  case round =>
    obtain ⟨f, pre, hfm, rfl, hsl, hpc, hpl, hJ, hc⟩ := hrel
    have HPC := Lib.hid (And.intro hpc (And.intro hpl hsl))
    clear hpc hsl
    have sl : ∀ w, (Instr.slice 9 (.string (str s)) (some (.int .i64 (f : Int))) none none).run Tryd.prog w = .ok (.string (str (s.drop f))) w := fun w => slice_from w 9 s f (by rw [← HM.out]; exact hfm) Tryd.underlying9
    rcases index_cut s f (by rw [← HM.out]; exact hfm) with ⟨hix, hmk⟩ | ⟨o, hix, hlt, h47, hmk⟩
    · have IX := Lib.hid (show ∀ w, Calls Tryd.prog 56 #[.string (str (s.drop f)), .int .u8 47] w fun e w' => e = .returned (.int .i64 (-1)) ∧ w = w' from fun w => by
        refine (Tryd.strings_IndexByte (str (s.drop f)) 47 w).mono fun e w' h => ?_
        rw [hix] at h; exact ⟨h.1, h.2.symm⟩)
      obtain ⟨p, hp⟩ : ∃ p : Pm s, p.1 = (f, s.drop f) := ⟨⟨(f, s.drop f), by rw [← HM.out]; exact hfm, HPC.out.2.2, by simp⟩, rfl⟩
      have HE := Lib.hid (show (pre ++ [p]).map (·.1) = marks s by
        rw [← HPC.out.1, List.map_append, List.map_cons, List.map_nil, hp, hmk])
      obtain ⟨fn, tmps, assign, body, hy, hR⟩ := hY pre p wr hJ (by have := HM.out; omega)
      rw [hp] at hy
      dsimp only at hy
      clear hp hpl hix hmk
      gi_wp2_with (refine ⟨trivial, ?_⟩; gi_at_call 56; refine (callsIn_wide.2 (IX.out _)).mono ?_; rintro e w' ⟨rfl, rfl⟩)
      refine hR.mono ?_
      rintro e W3 (⟨rfl, hJ3, hk3⟩ | ⟨rfl, hJx3⟩)
      · gi_wp2
        refine bodyPost_ret (results_none rfl _ _ _) rfl ?_
        exact ⟨⟨_, rfl⟩, .inl ⟨pre ++ [p], HE.out, hJ3⟩⟩
      · gi_wp2
        refine bodyPost_ret (results_none rfl _ _ _) rfl ?_
        exact ⟨⟨_, rfl⟩, .inr ⟨pre ++ [p], by rw [HE.out]; exact List.prefix_refl _, hJx3⟩⟩
    · have IX := Lib.hid (show ∀ w, Calls Tryd.prog 56 #[.string (str (s.drop f)), .int .u8 47] w fun e w' => e = .returned (.int .i64 (o : Int)) ∧ w = w' from fun w => by
        refine (Tryd.strings_IndexByte (str (s.drop f)) 47 w).mono fun e w' h => ?_
        rw [hix] at h; exact ⟨h.1, h.2.symm⟩)
      obtain ⟨p, hp⟩ : ∃ p : Pm s, p.1 = (f, (s.take (f + o)).drop f) := ⟨⟨(f, (s.take (f + o)).drop f), by rw [← HM.out]; exact hfm, HPC.out.2.2, mid_le s _ _⟩, rfl⟩
      rw [← HM.out] at hlt
      have sm : ∀ w, (Instr.slice 9 (.string (str s)) (some (.int .i64 (f : Int))) (some (.int .i64 ((f + o : Nat) : Int))) none).run Tryd.prog w = .ok (.string (str ((s.take (f + o)).drop f))) w := fun w => slice_mid w 9 s f (f + o) (Nat.le_add_right _ _) (by rw [← HM.out]; omega) Tryd.underlying9
      have HE := Lib.hid (show (pre ++ [p]).map (·.1) ++ marksAt (f + o + 1) (pieces (s.drop (f + o + 1))) = marks s by
        rw [← HPC.out.1, List.map_append, List.map_cons, List.map_nil, hp, hmk, List.append_assoc]; rfl)
      have H47 := Lib.hid (And.intro h47 hlt)
      obtain ⟨fn, tmps, assign, body, hy, hR⟩ := hY pre p wr hJ (by have := HM.out; omega)
      rw [hp] at hy
      dsimp only at hy
      obtain ⟨K, hK⟩ : ∃ K : Nat, K = f + o := ⟨_, rfl⟩
      obtain ⟨O, hO⟩ : ∃ O : Nat, O = o + 1 := ⟨_, rfl⟩
      obtain ⟨G, hG⟩ : ∃ G : Nat, G = f + o + 1 := ⟨_, rfl⟩
      rw [← hK] at sm hy
      rw [← hG] at HE
      obtain ⟨Q, hQ⟩ : ∃ Q, Q = (s.take K).drop f := ⟨_, rfl⟩
      rw [← hQ] at sm hy
      have HG := Lib.hid (And.intro hG hK)
      obtain ⟨w1, w2, w3, d0⟩ := seq_wraps f o m K O G hlt HMS.out hK hO hG
      clear hp hpl hix hmk hlt h47 hK hO hG hQ
      gi_wp2_with (refine ⟨trivial, ?_⟩; gi_at_call 56; refine (callsIn_wide.2 (IX.out _)).mono ?_; rintro e w' ⟨rfl, rfl⟩)
      refine hR.mono ?_
      rintro e W3 (⟨rfl, hJ3, hk3⟩ | ⟨rfl, hJx3⟩)
      · have hc3 : W3.cell? ⟨Bn, 0, none⟩ = some (.string (str s)) := hk3.trans hc
        gi_wp2
        go_roundw
        case rel => have HW := Lib.hid w3; clear w1 w2 w3; exact ⟨G, pre ++ [p], by have := HG.out; have := H47.out.2; omega, by rw [HW.out], by have := H47.out.1; rw [HG.out.1]; exact slash_ahead this, HE.out, by rw [List.length_append, List.length_singleton]; have := HPC.out.2.1; have := HG.out; omega, hJ3, hc3⟩
        case measure => rw [w3]; clear w1 w2 w3; exact measure_up7 m f G (by have := HG.out; omega) (by have := HG.out; have := H47.out.2; omega)
      · gi_wp2
        refine bodyPost_ret (results_none rfl _ _ _) rfl ?_
        exact ⟨⟨_, rfl⟩, .inr ⟨pre ++ [p], ⟨_, HE.out⟩, hJx3⟩⟩
theorem seq_stops (n : Nat) (hn : 1 ≤ n) (Bn : Nat) (s : List UInt8) (hs : s.length < 4611686018427387904) (w : World) (hw : Bn < w.heap.size) (hc : w.cell? ⟨Bn, 0, none⟩ = some (.string (str s))) :
    SeqStopsK Fence.wide n Tryd.prog 64 #[.pointer (some ⟨Bn, 0, none⟩)] (fun x : Pm s => #[.int .i64 (x.1.1 : Int), .string (str x.1.2)]) (KeepBox Bn) (fun xs => xs.map (·.1) = marks s) (fun pre => pre.map (·.1) <+: marks s) (s.length + 1) w := fun l J Jx W hW _ _ hY h0 =>
  seq_in n hn l Bn s hs J Jx hY W ((hW.cell (p := ⟨Bn, 0, none⟩) hw).trans hc) h0
/-- The function that goes through the parts: it has laid its text into a cell of its own. -/
theorem parts_any (s : List UInt8) (w : World) : Calls Tryd.prog 54 #[.string (str s)] w fun e w' => e = .returned (.func (.func 64) #[] #[.pointer (some ⟨w.heap.size, 0, none⟩)]) ∧ w' = w.alloc (.cells #[.string (str s)] 9) := by
  go_enter Tryd.func54, Tryd.ntmps54
  go_wp2
  go_ret
  exact ⟨rfl, rfl⟩
end Go.Proofs.YtocpplnnnflekaaDoor
namespace Go.Proofs.YtocpplnnnflekaaDoor
open Go.RowKit
theorem mark_at : ∀ x : Fin 256, decide (Lib.indexByte [45, 46, 95, 43, 126] (UInt8.ofNat x.1) ≥ 0) = (decide (x.1 = 45) || (decide (x.1 = 46) || (decide (x.1 = 95) || (decide (x.1 = 43) || decide (x.1 = 126))))) := by decide +kernel
theorem mark_ix (x : Nat) (hx : x < 256) : ∃ z, Lib.indexByte (ByteArray.mk #[45, 46, 95, 43, 126]).data.toList ((x : Int).toNat.toUInt8) = z ∧ decide (z ≥ 0) = (decide (x = 45) || (decide (x = 46) || (decide (x = 95) || (decide (x = 43) || decide (x = 126))))) := ⟨_, rfl, by
  have h := mark_at ⟨x, hx⟩
  rw [Int.toNat_natCast]; exact h⟩
set_option maxHeartbeats 4000000 in
theorem mayStand_any (c : UInt8) (w : World) : Calls Tryd.prog 70 #[.int .u8 (c.toNat : Int)] w fun e w' => e = .returned (.bool (isLet c)) ∧ w = w' := by
  obtain ⟨x, hx⟩ : ∃ x : Nat, x = c.toNat := ⟨_, rfl⟩
  have HX := Lib.hid (isLet_of c x hx)
  obtain ⟨z, hz, hzc⟩ := mark_ix x (by rw [hx]; exact UInt8.toNat_lt c)
  rw [← hx]
  have I1 := Lib.hid (show ∀ w, Calls Tryd.prog 56 #[.string ⟨#[45, 46, 95, 43, 126]⟩, .int .u8 (x : Int)] w fun e w' => e = .returned (.int .i64 z) ∧ w = w' from fun w => by
    refine (Tryd.strings_IndexByte ⟨#[45, 46, 95, 43, 126]⟩ (x : Int) w).mono fun e w' h => ?_
    rw [hz] at h; exact ⟨h.1, h.2.symm⟩)
  obtain ⟨q, hq⟩ : ∃ q, q = (decide (x = 45) || (decide (x = 46) || (decide (x = 95) || (decide (x = 43) || decide (x = 126))))) := ⟨_, rfl⟩
  rw [← hq] at hzc
  have HQ := Lib.hid hq
  clear hz hx hq
  go_enter Tryd.func70, Tryd.ntmps70
  go_wp2_with (first | (go_at_call 56; refine (I1.out _).mono ?_; rintro e w' ⟨rfl, rfl⟩))
  all_goals
    go_ret
    refine ⟨congrArg Ending.returned (show Value.bool _ = Value.bool _ from congrArg Value.bool ?_), rfl⟩
    rw [HX.out]
    try rw [HQ.out]
    rw [Bool.eq_iff_iff]
    simp
    try omega
set_option maxHeartbeats 4000000 in
theorem isPart_any (s : List UInt8) (hs : s.length < 4611686018427387904) (w : World) : Calls Tryd.prog 63 #[.string (str s)] w fun e w' => e = .returned (.bool (isPart s)) ∧ w = w' := by
  obtain ⟨n, hn⟩ : ∃ n, n = s.length := ⟨_, rfl⟩
  have HN := Lib.hid hn
  have hsz : (str s).size = n := by rw [str_size, hn]
  have hl : (str s).toList = s := str_toList s
  rw [← hn] at hs
  clear hn
  by_cases h0 : s = []
  · subst h0
    go_enter Tryd.func63, Tryd.ntmps63
    go_wp2
    go_ret
    exact ⟨rfl, rfl⟩
  by_cases h100 : 100 < n
  · have q0 : (n : Int) > 100 := by omega
    have HP := Lib.hid (show isPart s = false by
      cases h : isPart s with
      | false => rfl
      | true => have := isPart_len h; have := HN.out; omega)
    go_enter Tryd.func63, Tryd.ntmps63
    go_wp2
    go_ret
    exact ⟨by rw [HP.out]; rfl, rfl⟩
  by_cases h1 : s = [46]
  · subst h1
    obtain rfl : n = 1 := HN.out
    go_enter Tryd.func63, Tryd.ntmps63
    go_wp2
    go_ret
    exact ⟨rfl, rfl⟩
  by_cases h2 : s = [46, 46]
  · subst h2
    obtain rfl : n = 2 := HN.out
    go_enter Tryd.func63, Tryd.ntmps63
    go_wp2
    go_ret
    exact ⟨rfl, rfl⟩
  have q0 : ¬ (n : Int) > 100 := by omega
  have e0 : s.isEmpty = false := by cases s with | nil => exact absurd rfl h0 | cons c t => rfl
  have HH := Lib.hid (And.intro h0 (And.intro h100 (And.intro h1 h2)))
  have e1 : (s == [46]) = false := beq_eq_false_iff_ne.2 h1
  have e2 : (s == [46, 46]) = false := beq_eq_false_iff_ne.2 h2
  clear h100 h0 h1 h2
  go_enter Tryd.func63, Tryd.ntmps63
  go_wp2
  go_loopw [21] (fun i wr => wr = w ∧ ∃ k : Nat, k ≤ n ∧ i = .int .i64 k ∧ ∀ j, j < k → ∀ c, s[j]? = some c → isLet c = true) (fun i _ => n - (intOf i).toNat)
  case atStart => exact ⟨rfl, 0, by omega, rfl, fun j hj => by omega⟩
  case round =>
    obtain ⟨rfl, k, hk, rfl, hall⟩ := hrel
    have HA := Lib.hid hall
    clear hall
    by_cases hlt : k < n
    · obtain ⟨c, hc⟩ : ∃ c, s[k]? = some c := ⟨s[k]'(by have := HN.out; omega), List.getElem?_eq_getElem _⟩
      have i1 := fun w => index_str (P := Tryd.prog) w s .i64 k c hc Tryd.underlying9
      have HC := Lib.hid hc
      have q0 : (k : Int) < (n : Int) := by omega
      clear hc
      cases hlet : isLet c with
      | true =>
        have HL := Lib.hid hlet
        have HW := Lib.hid (show ∀ w, Calls Tryd.prog 70 #[.int .u8 (c.toNat : Int)] w fun e w' => e = .returned (.bool true) ∧ w = w' from fun w => by have := mayStand_any c w; rwa [hlet] at this)
        clear hlet
        go_wp2_with (first | (go_at_call 70; refine (HW.out _).mono ?_; rintro e w' ⟨rfl, rfl⟩))
        go_roundw
        case rel => exact ⟨trivial, k + 1, by omega, by go_num, fun j hj c' hc' => by
          rcases Nat.lt_or_ge j k with h | h
          · exact HA.out j h c' hc'
          · obtain rfl : j = k := by omega
            rw [HC.out] at hc'; cases hc'; exact HL.out⟩
        case measure => simp [intOf]; omega
      | false =>
        have HP := Lib.hid (show isPart s = false by
          rw [isPart, Bool.and_eq_false_iff]; left
          rw [Bool.eq_false_iff, ne_eq, List.all_eq_true]
          intro h; have := h c (List.mem_of_getElem? HC.out); rw [hlet] at this; cases this)
        have HW := Lib.hid (show ∀ w, Calls Tryd.prog 70 #[.int .u8 (c.toNat : Int)] w fun e w' => e = .returned (.bool false) ∧ w = w' from fun w => by have := mayStand_any c w; rwa [hlet] at this)
        clear hlet
        go_wp2_with (first | (go_at_call 70; refine (HW.out _).mono ?_; rintro e w' ⟨rfl, rfl⟩))
        go_ret
        exact ⟨by rw [HP.out]; rfl, rfl⟩
    · obtain rfl : k = n := by omega
      have HP := Lib.hid (show isPart s = true by
        have hl : 1 ≤ k := by
          rcases Nat.eq_zero_or_pos k with h | h
          · exact absurd (List.eq_nil_of_length_eq_zero (by rw [← HN.out]; exact h)) HH.out.1
          · exact h
        rw [isPart, ← HN.out, show s.all isLet = true from List.all_eq_true.2 fun c hc => by
          obtain ⟨j, hj, rfl⟩ := List.mem_iff_getElem.1 hc
          exact HA.out j (by rw [HN.out]; exact hj) _ (List.getElem?_eq_getElem hj), decide_eq_true hl, decide_eq_true (show k ≤ 100 by have := HH.out.2.1; omega), bne_iff_ne.2 HH.out.2.2.1, bne_iff_ne.2 HH.out.2.2.2]
        rfl)
      go_wp2
      go_ret
      exact ⟨by rw [HP.out]; rfl, rfl⟩
end Go.Proofs.YtocpplnnnflekaaDoor
namespace Go.Proofs.YtocpplnnnflekaaDoor
open Go.RowKit Go.Shelf
attribute [local go_sem] Oper.semAt_some
theorem cell_new (W : World) (v : Value) (t : TypeId) : (W.alloc (.cells #[v] t)).cell? ⟨W.heap.size, 0, none⟩ = some v ∧ (W.alloc (.cells #[v] t)).frozen? ⟨W.heap.size, 0, none⟩ = false := by
  have h := heap_last W (.cells #[v] t)
  constructor <;> simp only [World.cell?, World.frozen?, h] <;> rfl
/-- One cell, and that it may be written. -/
def Cell1 (g : Nat) (W : World) (x : Value) : Prop := W.cell? ⟨g, 0, none⟩ = some x ∧ W.frozen? ⟨g, 0, none⟩ = false
theorem cell1_own {g : Nat} {A B : World} {x : Value} {row : Option Nat} (hs : Cell1 g A x) (hg : A.grownBy B row) (hr : ∀ r, row = some r → ∃ o : Obj, A.heap[r]? = some o ∧ o.isCells = false) : Cell1 g B x := ⟨cell_kept hs.1 hg hr, (frozen_kept hs.1 hg hr).trans hs.2⟩
theorem cell1_alloc {g : Nat} {A : World} {x : Value} (hs : Cell1 g A x) (o : Obj) : Cell1 g (A.alloc o) x := cell1_own hs (World.grownBy_alloc A o none) (fun r e => by cases e)
theorem cell1_set {g : Nat} {A : World} {x : Value} (hs : Cell1 g A x) (y : Value) : Cell1 g (A.setCell ⟨g, 0, none⟩ y) y := ⟨World.cell?_setCell_same' A ⟨g, 0, none⟩ y (by rw [hs.1]; rfl), by rw [World.frozen?_setCell]; exact hs.2⟩
theorem parts_all {s : List UInt8} {ys : List (Pm s)} (h : ys.map (·.1) = marks s) (hall : ∀ x ∈ ys, isPart x.1.2 = true) : isParts s = true := by
  rw [isParts, List.all_eq_true, ← marks_snd, ← h]
  intro p hp
  obtain ⟨y, hy, rfl⟩ := List.mem_map.1 hp
  obtain ⟨x, hx, rfl⟩ := List.mem_map.1 hy
  exact hall x hx
theorem parts_not {s : List UInt8} {pre : List (Pm s)} (h : pre.map (·.1) <+: marks s) (hex : ∃ x ∈ pre, isPart x.1.2 = false) : isParts s = false := by
  obtain ⟨x, hx, hp⟩ := hex
  rw [isParts, Bool.eq_false_iff, ne_eq, List.all_eq_true]
  intro hall
  have := hall x.1.2 (by
    rw [← marks_snd]
    exact List.mem_map.2 ⟨x.1, h.subset (List.mem_map.2 ⟨x, hx, rfl⟩), rfl⟩)
  rw [hp] at this; cases this
set_option maxRecDepth 100000 in
set_option maxHeartbeats 4000000 in
theorem areParts_any (s : List UInt8) (hs : s.length < 4611686018427387904) (w : World) : Calls Tryd.prog 53 #[.string (str s)] w fun e w' => e = .returned (.bool (isParts s)) ∧ Below w.heap.size w w' := by
  have HS := Lib.hid hs
  clear hs
  refine (callsIn_wide (n := 6)).1 ?_
  refine callsIn_of_wp_marks Tryd.func53 rfl trivial ?_ rfl
  simp only [Tryd.ntmps53, List.size_toArray, List.length_cons, List.length_nil, Nat.reduceAdd, Nat.reduceSub, Array.replicate_succ, Array.replicate_zero, List.push_toArray, List.append_toArray, List.nil_append, List.cons_append]
  refine wpIn_wide.2 ?_
  have HP0 := Lib.hid (parts_any s)
  go_wp2_with (first | (go_at_call 54; have A0 := Lib.hid (cell_new w (.bool false) 4); have B0 := Lib.hid ((Below.refl w.heap.size w).alloc (Nat.le_refl _) (.cells #[.bool false] 4)); have Z0 := Lib.hid (show (w.alloc (.cells #[.bool false] 4)).heap.size = w.heap.size + 1 by simp); generalize w.alloc (.cells #[.bool false] 4) = W0 at *; refine (HP0.out _).mono ?_; rintro e w1 ⟨rfl, rfl⟩))
  have hc := cell_new W0 (.string (str s)) 9
  have C0 := Lib.hid (cell1_alloc (show Cell1 w.heap.size W0 (.bool false) from A0.out) (.cells #[.string (str s)] 9))
  have B1 := Lib.hid (B0.out.alloc B0.out.size (.cells #[.string (str s)] 9))
  refine (wpIn_wide (n := 6)).1 ?_
  refine wpIn_rangeFunc_ownF (F := Fence.wide) rfl (by decide) (gf := 64) (lb := #[.pointer (some ⟨W0.heap.size, 0, none⟩)]) rfl trivial (enters_of Tryd.func64 (by kernel_rfl) rfl)
    (seq_stops 5 (by decide) W0.heap.size s HS.out _ (by simp) hc.1) keepBox_t (keepBox_b (by simp)) (Below.refl _ _) (fun _ => rfl)
    (fun pre W => (Cell1 w.heap.size W (.bool false) ∧ ∀ x ∈ pre, isPart x.1.2 = true) ∧ Below w.heap.size w W)
    (fun c pre W => (Cell1 w.heap.size W (.bool false) ∧ c = .ret ∧ ∃ x ∈ pre, isPart x.1.2 = false) ∧ Below w.heap.size w W)
    (OwnFrom.and (OwnFrom.and (Own.from (fun s A B row hs hg hr => cell1_own hs hg hr) _) (ownFrom_pure _ _)) (ownFrom_below (Nat.le_refl _) (by have := Z0.out; simp; omega)))
    (fun c => OwnFrom.and (OwnFrom.and (Own.from (fun s A B row hs hg hr => cell1_own hs hg hr) _) (ownFrom_pure _ _)) (ownFrom_below (Nat.le_refl _) (by have := Z0.out; simp; omega)))
    ⟨⟨C0.out, fun x hx => by cases hx⟩, B1.out⟩
    (fun x => { tmps := #[.string (str s), undef, .pointer (some ⟨w.heap.size, 0, none⟩), undef, .string (str x.1.2), .string (str s), .func (.func 64) #[] #[.pointer (some ⟨W0.heap.size, 0, none⟩)], .int .i64 (x.1.1 : Int), .string (str x.1.2), undef, undef, undef], defers := [] }) ?assign ?body ?done ?stop
  case assign =>
    intro l x W K hK
    gi_wp2
    exact hK
  case body =>
    rintro l pre x W ⟨⟨hC, hall⟩, hB⟩ _
    have HC := Lib.hid hC
    have HA := Lib.hid (And.intro hall hB)
    clear hall hB
    obtain ⟨c0, f0⟩ := hC
    cases hip : isPart x.1.2 with
    | true =>
      have HI := Lib.hid hip
      have PI := Lib.hid (show ∀ w, Calls Tryd.prog 63 #[.string (str x.1.2)] w fun e w' => e = .returned (.bool true) ∧ w = w' from fun w => by have h := isPart_any x.1.2 (Nat.lt_of_le_of_lt x.2.2.2 HS.out) w; rwa [hip] at h)
      clear hip
      gi_wp2_with (refine ⟨trivial, ?_⟩; gi_at_call 63; refine (CallsIn.inRound l (callsIn_wide.2 (PI.out _))).mono ?_; rintro e w' ⟨rfl, rfl⟩)
      exact ⟨KeepsOthers.refl _, rfl, ⟨HC.out, fun y hy => (List.mem_append.1 hy).elim (HA.out.1 y) (fun e => by rw [List.mem_singleton] at e; subst e; exact HI.out)⟩, HA.out.2⟩
    | false =>
      have HI := Lib.hid hip
      have PI := Lib.hid (show ∀ w, Calls Tryd.prog 63 #[.string (str x.1.2)] w fun e w' => e = .returned (.bool false) ∧ w = w' from fun w => by have h := isPart_any x.1.2 (Nat.lt_of_le_of_lt x.2.2.2 HS.out) w; rwa [hip] at h)
      clear hip
      gi_wp2_with (refine ⟨trivial, ?_⟩; gi_at_call 63; refine (CallsIn.inRound l (callsIn_wide.2 (PI.out _))).mono ?_; rintro e w' ⟨rfl, rfl⟩)
      exact ⟨KeepsOthers.setCell W _ _, ⟨cell1_set HC.out _, rfl, x, List.mem_append.2 (.inr (List.mem_singleton.2 rfl)), HI.out⟩, HA.out.2.setCell (p := ⟨w.heap.size, 0, none⟩) (Nat.le_refl _) _⟩
  case done =>
    rintro D ys W hD hys ⟨⟨hC, hall⟩, hB⟩ hK
    have HC := Lib.hid hC
    have HB := Lib.hid hB
    have HP := Lib.hid (parts_all hys hall)
    have HD := Lib.hid (show W0.heap.size + 1 ≤ D by simpa using hD)
    clear hD hB hall hys
    obtain ⟨c0, f0⟩ := hC
    have HK := Lib.hid hK
    clear hK
    go_wp2
    have hK' := (KeepsOthers.setCell W ⟨w.heap.size, 0, none⟩ (.bool true)).same D _ HK.out rfl
    have hC' := cell1_own (cell1_set HC.out (.bool true)) (grownBy_putObj' _ D (.deferred none)) (fun r e => by cases e; exact ⟨_, hK', rfl⟩)
    refine ⟨by simp, .inl ⟨_, _, rfl, run_takeDeferred hK', ?_⟩⟩
    obtain ⟨r0, -⟩ := hC'
    refine ⟨.bool true, by simp [results, Tryd.f53, go_sem, r0], by rw [HP.out], ?_⟩
    exact (HB.out.setCell (p := ⟨w.heap.size, 0, none⟩) (Nat.le_refl _) _).trans (belowK_b (w := w) (Nat.le_refl _) _ D _ _ (by have := Z0.out; have := HD.out; omega) hK' rfl rfl)
  case stop =>
    rintro D c pre W hD hpre ⟨⟨hC, rfl, hex⟩, hB⟩ hK
    have HC := Lib.hid hC
    have HB := Lib.hid hB
    have HP := Lib.hid (parts_not hpre hex)
    have HD := Lib.hid (show W0.heap.size + 1 ≤ D by simpa using hD)
    clear hD hB hex hpre
    obtain ⟨c0, f0⟩ := hC
    have HK := Lib.hid hK
    clear hK
    gi_wp2
    have hC' := cell1_own HC.out (grownBy_putObj' _ D (.deferred none)) (fun r e => by cases e; exact ⟨_, HK.out, rfl⟩)
    refine ⟨by simp, .inl ⟨_, _, rfl, run_takeDeferred HK.out, ?_⟩⟩
    obtain ⟨r0, -⟩ := hC'
    refine ⟨.bool false, by simp [results, Tryd.f53, go_sem, r0], by rw [HP.out], ?_⟩
    exact HB.out.trans (belowK_b (w := w) (Nat.le_refl _) _ D _ _ (by have := Z0.out; have := HD.out; omega) HK.out rfl rfl)
end Go.Proofs.YtocpplnnnflekaaDoor
