/-
A header's fields laid one behind the other, walked over the landed code.
-/
import Derived.Test.YtbjekhhefepnlaaDoorHeaderLay
import Derived.Test.YtbjekhhefepnlaaDoorHeaderFace
namespace Go.Proofs.YtbjekhhefepnlaaDoor
open Go.RowKit
theorem text_ok (F : OctalFace) (s : List UInt8) (k : Nat) (h : fieldErr s (k : Int) = 0) (w : World) : Calls Tryd.prog 32 #[.string (str s), .int .i64 (k : Int)] w fun e w' => ∃ v, e = .returned (.tuple #[v, .int .i64 0]) ∧ HasText w' v (fieldT s (k : Int)) ∧ Below w.heap.size w w' := by
  obtain ⟨h1, h2, -, h4⟩ := (fieldErr_ok s (k : Int)).1 h
  have := F.text w s (k : Int) (by omega) (by omega) (by omega)
  rwa [h] at this
theorem put_ok (F : OctalFace) (n : Int) (k : Nat) (h : putErr n (k : Int) = 0) (h0 : -9223372036854775808 ≤ n) (h1 : n < 9223372036854775808) (hk : k < 256) (w : World) : Calls Tryd.prog 33 #[.int .i64 n, .int .i64 (k : Int)] w fun e w' => ∃ v, e = .returned (.tuple #[v, .int .i64 0]) ∧ HasText w' v (putT n (k : Int)) ∧ Below w.heap.size w w' := by
  have := F.put w n (k : Int) h0 h1 (by omega) (by omega)
  rwa [h] at this
set_option maxRecDepth 100000 in
set_option maxHeartbeats 16000000 in
theorem lay_any (pre name : List UInt8) (size : Int) (hfit : Fit pre name size) (hs0 : 0 ≤ size) (hs1 : size ≤ 4194304) (w : World) : Calls Tryd.prog 19 #[.string (str pre), .string (str name), .int .i64 size] w fun e w' => ∃ v, e = .returned v ∧ OwnText w' w.heap.size v (hdrL pre name size) ∧ Below w.heap.size w w' := by
  obtain ⟨i0, hi, hz0, hz1, hz2⟩ := info_parts infoByte
  have TF1 := Lib.hid (show ∀ w, Calls Tryd.prog 32 #[.string (str name), .int .i64 100] w fun e w' => ∃ v, e = .returned (.tuple #[v, .int .i64 0]) ∧ HasText w' v (fieldT name 100) ∧ Below w.heap.size w w' from fun w => text_ok octalFace name 100 hfit.1 w)
  have LF1 : (fieldT name 100).length = 100 := fieldT_length name 100 hfit.1
  have TP8 := Lib.hid (show ∀ w, Calls Tryd.prog 33 #[.int .i64 420, .int .i64 8] w fun e w' => ∃ v, e = .returned (.tuple #[v, .int .i64 0]) ∧ HasText w' v (putT 420 8) ∧ Below w.heap.size w w' from fun w => put_ok octalFace 420 8 (by decide +kernel) (by omega) (by omega) (by omega) w)
  have LP8 : (putT 420 8).length = 8 := (get_put 420 8 (by decide +kernel)).2.2
  have TZ8 := Lib.hid (show ∀ w, Calls Tryd.prog 33 #[.int .i64 0, .int .i64 8] w fun e w' => ∃ v, e = .returned (.tuple #[v, .int .i64 0]) ∧ HasText w' v (putT 0 8) ∧ Below w.heap.size w w' from fun w => put_ok octalFace 0 8 (by decide +kernel) (by omega) (by omega) (by omega) w)
  have LZ8 : (putT 0 8).length = 8 := (get_put 0 8 (by decide +kernel)).2.2
  have TS12 := Lib.hid (show ∀ w, Calls Tryd.prog 33 #[.int .i64 size, .int .i64 12] w fun e w' => ∃ v, e = .returned (.tuple #[v, .int .i64 0]) ∧ HasText w' v (putT size 12) ∧ Below w.heap.size w w' from fun w => put_ok octalFace size 12 hfit.2.2 (by omega) (by omega) (by omega) w)
  have LS12 : (putT size 12).length = 12 := (get_put size 12 hfit.2.2).2.2
  have TZ12 := Lib.hid (show ∀ w, Calls Tryd.prog 33 #[.int .i64 0, .int .i64 12] w fun e w' => ∃ v, e = .returned (.tuple #[v, .int .i64 0]) ∧ HasText w' v (putT 0 12) ∧ Below w.heap.size w w' from fun w => put_ok octalFace 0 12 (by decide +kernel) (by omega) (by omega) (by omega) w)
  have LZ12 : (putT 0 12).length = 12 := (get_put 0 12 (by decide +kernel)).2.2
  have TE8 := Lib.hid (show ∀ w, Calls Tryd.prog 32 #[.string ⟨#[]⟩, .int .i64 8] w fun e w' => ∃ v, e = .returned (.tuple #[v, .int .i64 0]) ∧ HasText w' v (fieldT [] 8) ∧ Below w.heap.size w w' from fun w => text_ok octalFace [] 8 (by decide +kernel) w)
  have LE8 : (fieldT [] 8).length = 8 := fieldT_length [] 8 (by decide +kernel)
  have TK1 := Lib.hid (show ∀ w, Calls Tryd.prog 32 #[.string ⟨#[48]⟩, .int .i64 1] w fun e w' => ∃ v, e = .returned (.tuple #[v, .int .i64 0]) ∧ HasText w' v (fieldT [48] 1) ∧ Below w.heap.size w w' from fun w => text_ok octalFace [48] 1 (by decide +kernel) w)
  have LK1 : (fieldT [48] 1).length = 1 := fieldT_length [48] 1 (by decide +kernel)
  have TE100 := Lib.hid (show ∀ w, Calls Tryd.prog 32 #[.string ⟨#[]⟩, .int .i64 100] w fun e w' => ∃ v, e = .returned (.tuple #[v, .int .i64 0]) ∧ HasText w' v (fieldT [] 100) ∧ Below w.heap.size w w' from fun w => text_ok octalFace [] 100 (by decide +kernel) w)
  have LE100 : (fieldT [] 100).length = 100 := fieldT_length [] 100 (by decide +kernel)
  have TM6 := Lib.hid (show ∀ w, Calls Tryd.prog 32 #[.string ⟨#[117, 115, 116, 97, 114]⟩, .int .i64 6] w fun e w' => ∃ v, e = .returned (.tuple #[v, .int .i64 0]) ∧ HasText w' v (fieldT [117, 115, 116, 97, 114] 6) ∧ Below w.heap.size w w' from fun w => text_ok octalFace [117, 115, 116, 97, 114] 6 (by decide +kernel) w)
  have LM6 : (fieldT [117, 115, 116, 97, 114] 6).length = 6 := fieldT_length [117, 115, 116, 97, 114] 6 (by decide +kernel)
  have TV2 := Lib.hid (show ∀ w, Calls Tryd.prog 32 #[.string ⟨#[48, 48]⟩, .int .i64 2] w fun e w' => ∃ v, e = .returned (.tuple #[v, .int .i64 0]) ∧ HasText w' v (fieldT [48, 48] 2) ∧ Below w.heap.size w w' from fun w => text_ok octalFace [48, 48] 2 (by decide +kernel) w)
  have LV2 : (fieldT [48, 48] 2).length = 2 := fieldT_length [48, 48] 2 (by decide +kernel)
  have TE32 := Lib.hid (show ∀ w, Calls Tryd.prog 32 #[.string ⟨#[]⟩, .int .i64 32] w fun e w' => ∃ v, e = .returned (.tuple #[v, .int .i64 0]) ∧ HasText w' v (fieldT [] 32) ∧ Below w.heap.size w w' from fun w => text_ok octalFace [] 32 (by decide +kernel) w)
  have LE32 : (fieldT [] 32).length = 32 := fieldT_length [] 32 (by decide +kernel)
  have TF155 := Lib.hid (show ∀ w, Calls Tryd.prog 32 #[.string (str pre), .int .i64 155] w fun e w' => ∃ v, e = .returned (.tuple #[v, .int .i64 0]) ∧ HasText w' v (fieldT pre 155) ∧ Below w.heap.size w w' from fun w => text_ok octalFace pre 155 hfit.2.1 w)
  have LF155 : (fieldT pre 155).length = 155 := fieldT_length pre 155 hfit.2.1
  obtain ⟨A, hA⟩ : ∃ A, A = hdrA name size := ⟨_, rfl⟩
  obtain ⟨C, hC⟩ : ∃ C, C = hdrC pre := ⟨_, rfl⟩
  obtain ⟨S, hS⟩ : ∃ S, S = hdrS pre name size := ⟨_, rfl⟩
  have lA : A.length = 148 := by rw [hA]; exact hdrA_len hfit
  have lC : C.length = 356 := by rw [hC]; exact hdrC_len hfit
  have lS : S ≤ 130560 := by rw [hS]; exact hdrS_lt hfit
  have sS : sumL (A ++ (fieldT [] 8 ++ C)) = S := by
    rw [hS, hdrS, hdr0, hA, hC]
    exact sum_mid _ _ _ _ (hdrA_len hfit) (by decide +kernel) (by rw [blank8_eq]; rfl)
  have CK := Lib.hid (show ∀ w v, HasText w v (A ++ (fieldT [] 8 ++ C)) → Calls Tryd.prog 34 #[v] w fun e w' => e = .returned (.int .i64 (S : Int)) ∧ Below w.heap.size w w' from fun w v hv => by
    have h := octalFace.check w v _ (by rw [List.length_append, List.length_append, lA, lC, LE8]; decide) hv
    rw [sS, show IntKind.i64.wrap (S : Int) = (S : Int) by rw [IntKind.wrap_i64]; omega] at h
    exact h)
  have TS := Lib.hid (show ∀ w, Calls Tryd.prog 33 #[.int .i64 (S : Int), .int .i64 7] w fun e w' => ∃ v, e = .returned (.tuple #[v, .int .i64 0]) ∧ HasText w' v (putT S 7) ∧ Below w.heap.size w w' from fun w => put_ok octalFace S 7 (put7 lS) (by omega) (by omega) (by omega) w)
  have LS7 : (putT S 7).length = 7 := (get_put S 7 (put7 lS)).2.2
  have TB := Lib.hid (show ∀ w, Calls Tryd.prog 32 #[.string ⟨#[32]⟩, .int .i64 1] w fun e w' => ∃ v, e = .returned (.tuple #[v, .int .i64 0]) ∧ HasText w' v [32] ∧ Below w.heap.size w w' from fun w => by
    have h := text_ok octalFace [32] 1 (by decide +kernel) w
    rwa [show fieldT [32] ((1 : Nat) : Int) = [32] by decide +kernel] at h)
  have HW := Lib.hid (show hdrL pre name size = A ++ (putT S 7 ++ ([32] ++ C)) by rw [hdrL, sumB, hA, hC, hS, List.append_assoc])
  obtain ⟨F1, hF1⟩ : ∃ l, l = fieldT name 100 := ⟨_, rfl⟩
  rw [← hF1] at TF1 LF1
  obtain ⟨P8, hP8⟩ : ∃ l, l = putT 420 8 := ⟨_, rfl⟩
  rw [← hP8] at TP8 LP8
  obtain ⟨Z8, hZ8⟩ : ∃ l, l = putT 0 8 := ⟨_, rfl⟩
  rw [← hZ8] at TZ8 LZ8
  obtain ⟨S12, hS12⟩ : ∃ l, l = putT size 12 := ⟨_, rfl⟩
  rw [← hS12] at TS12 LS12
  obtain ⟨Z12, hZ12⟩ : ∃ l, l = putT 0 12 := ⟨_, rfl⟩
  rw [← hZ12] at TZ12 LZ12
  obtain ⟨E8, hE8⟩ : ∃ l, l = fieldT [] 8 := ⟨_, rfl⟩
  rw [← hE8] at TE8 LE8
  obtain ⟨K1, hK1⟩ : ∃ l, l = fieldT [48] 1 := ⟨_, rfl⟩
  rw [← hK1] at TK1 LK1
  obtain ⟨E100, hE100⟩ : ∃ l, l = fieldT [] 100 := ⟨_, rfl⟩
  rw [← hE100] at TE100 LE100
  obtain ⟨M6, hM6⟩ : ∃ l, l = fieldT [117, 115, 116, 97, 114] 6 := ⟨_, rfl⟩
  rw [← hM6] at TM6 LM6
  obtain ⟨V2, hV2⟩ : ∃ l, l = fieldT [48, 48] 2 := ⟨_, rfl⟩
  rw [← hV2] at TV2 LV2
  obtain ⟨E32, hE32⟩ : ∃ l, l = fieldT [] 32 := ⟨_, rfl⟩
  rw [← hE32] at TE32 LE32
  obtain ⟨F155, hF155⟩ : ∃ l, l = fieldT pre 155 := ⟨_, rfl⟩
  rw [← hF155] at TF155 LF155
  rw [← hE8] at sS CK
  have HE := Lib.hid (show (((((((((((((((([] ++ F1) ++ P8) ++ Z8) ++ Z8) ++ S12) ++ Z12) ++ E8) ++ K1) ++ E100) ++ M6) ++ V2) ++ E32) ++ E32) ++ Z8) ++ Z8) ++ F155) ++ List.replicate 12 0 = A ++ (E8 ++ C) by
    have e12 : List.replicate 12 (0 : UInt8) = fieldT [] 12 := by decide +kernel
    rw [e12, hA, hC, hdrA, hdrC, ← hF1, ← hP8, ← hZ8, ← hS12, ← hZ12, ← hK1, ← hE100, ← hM6, ← hV2, ← hE32, ← hF155]; simp only [List.append_assoc, List.nil_append])
  have HL := Lib.hid (And.intro LF1 ( And.intro LP8 ( And.intro LZ8 ( And.intro LS12 ( And.intro LZ12 ( And.intro LE8 ( And.intro LK1 ( And.intro LE100 ( And.intro LM6 ( And.intro LV2 ( And.intro LE32 ( And.intro LF155 (And.intro lA (And.intro lC (And.intro LS7 LE8)))))))))))))))
  obtain ⟨Q7, hQ7⟩ : ∃ l, l = putT S 7 := ⟨_, rfl⟩
  rw [← hQ7] at TS LS7 HL HW
  clear LF1 hF1 LP8 hP8 LZ8 hZ8 LS12 hS12 LZ12 hZ12 LE8 hE8 LK1 hK1 LE100 hE100 LM6 hM6 LV2 hV2 LE32 hE32 LF155 hF155 lA lC lS sS hA hC hS LS7 hs0 hs1 hfit hQ7
  go_enter Tryd.func19, Tryd.ntmps19
  go_upto_region 2 with (first | (refine wpList_make_full _ rfl (.const (.int .i64 512)) (.const (.int .i64 512)) 22 rfl w.heap.size 5 i0 (.int .u8 0) 1 Tryd.underlying22 hi hz0 hz1 .i64 .i64 512 512 512 rfl rfl rfl rfl (by rw [hz2]; decide) (by unfold maxLen; decide) (Nat.le_refl _) ?_; intro w1 ho1 hg1; have HC1 := Lib.hid (made_row ho1); have HB1 := Lib.hid (below_grown (Below.refl w.heap.size w) hg1 (Nat.le_refl _) (fun k hk => by cases hk)); clear ho1 hg1))
  go_upto_region 3 with (first | (go_at_call 31; refine (layer_any w1 ⟨w.heap.size, 0, none⟩ 512 512).mono ?_; rintro e w2 ⟨rfl, rfl⟩))
  obtain ⟨w2, hw2⟩ : ∃ w2, w2 = w1.alloc (.cells #[.slice (some ⟨w.heap.size, 0, none⟩) 512 512] 22 (0, 0)) := ⟨_, rfl⟩
  have HY0 := Lib.hid (show Laying w2 w.heap.size w1.heap.size ([] ++ List.replicate 512 0) 0 512 512 ∧ ([] : List UInt8).length = 0 by
    have hlt := lt_of_block HC1.out
    refine ⟨⟨?_, ?_, by omega⟩, rfl⟩
    · rw [hw2, heap_at_alloc, if_neg (by omega)]; exact HC1.out
    · rw [hw2]; exact heap_last _ _)
  have HX0 := Lib.hid (show Below w.heap.size w w2 by rw [hw2]; exact HB1.out.alloc HB1.out.size _)
  have HB := Lib.hid (show w.heap.size ≤ w1.heap.size from HB1.out.size)
  rw [← hw2]
  clear hw2 HC1 HB1
  generalize w1.heap.size = B at *
  go_upto_region 4 with (first | (go_at_call 32; refine (TF1.out _).mono ?_; rintro e w3a ⟨vt, rfl, ht, hb⟩; have HY := Lib.hid (And.intro (laying_below HY0.out.1 hb) HY0.out.2); have HX := Lib.hid (below_next HX0.out hb); have HT := Lib.hid ht; clear ht hb HY0 HX0) | (go_at_call 42; refine (field_next w3a w.heap.size w.heap.size B [] F1 0 512 100 100 412 vt _ (Nat.le_refl _) HB.out HY.out.1 HY.out.2 HT.out HL.out.1 (by decide) rfl rfl (by decide)).mono ?_; rintro e w3b ⟨rfl, hl, hb⟩; have HY1 := Lib.hid hl; have HX1 := Lib.hid (HX.out.trans hb); clear hl hb HY HX HT))
  go_upto_region 5 with (first | (go_at_call 33; refine (TP8.out _).mono ?_; rintro e w4a ⟨vt, rfl, ht, hb⟩; have HY := Lib.hid (And.intro (laying_below HY1.out.1 hb) HY1.out.2); have HX := Lib.hid (below_next HX1.out hb); have HT := Lib.hid ht; clear ht hb HY1 HX1) | (go_at_call 42; refine (field_next w4a w.heap.size w.heap.size B ([] ++ F1) P8 100 412 8 108 404 vt _ (Nat.le_refl _) HB.out HY.out.1 HY.out.2 HT.out HL.out.2.1 (by decide) rfl rfl (by decide)).mono ?_; rintro e w4b ⟨rfl, hl, hb⟩; have HY2 := Lib.hid hl; have HX2 := Lib.hid (HX.out.trans hb); clear hl hb HY HX HT))
  go_upto_region 6 with (first | (go_at_call 33; refine (TZ8.out _).mono ?_; rintro e w5a ⟨vt, rfl, ht, hb⟩; have HY := Lib.hid (And.intro (laying_below HY2.out.1 hb) HY2.out.2); have HX := Lib.hid (below_next HX2.out hb); have HT := Lib.hid ht; clear ht hb HY2 HX2) | (go_at_call 42; refine (field_next w5a w.heap.size w.heap.size B (([] ++ F1) ++ P8) Z8 108 404 8 116 396 vt _ (Nat.le_refl _) HB.out HY.out.1 HY.out.2 HT.out HL.out.2.2.1 (by decide) rfl rfl (by decide)).mono ?_; rintro e w5b ⟨rfl, hl, hb⟩; have HY3 := Lib.hid hl; have HX3 := Lib.hid (HX.out.trans hb); clear hl hb HY HX HT))
  go_upto_region 7 with (first | (go_at_call 33; refine (TZ8.out _).mono ?_; rintro e w6a ⟨vt, rfl, ht, hb⟩; have HY := Lib.hid (And.intro (laying_below HY3.out.1 hb) HY3.out.2); have HX := Lib.hid (below_next HX3.out hb); have HT := Lib.hid ht; clear ht hb HY3 HX3) | (go_at_call 42; refine (field_next w6a w.heap.size w.heap.size B ((([] ++ F1) ++ P8) ++ Z8) Z8 116 396 8 124 388 vt _ (Nat.le_refl _) HB.out HY.out.1 HY.out.2 HT.out HL.out.2.2.1 (by decide) rfl rfl (by decide)).mono ?_; rintro e w6b ⟨rfl, hl, hb⟩; have HY4 := Lib.hid hl; have HX4 := Lib.hid (HX.out.trans hb); clear hl hb HY HX HT))
  go_upto_region 8 with (first | (go_at_call 33; refine (TS12.out _).mono ?_; rintro e w7a ⟨vt, rfl, ht, hb⟩; have HY := Lib.hid (And.intro (laying_below HY4.out.1 hb) HY4.out.2); have HX := Lib.hid (below_next HX4.out hb); have HT := Lib.hid ht; clear ht hb HY4 HX4) | (go_at_call 42; refine (field_next w7a w.heap.size w.heap.size B (((([] ++ F1) ++ P8) ++ Z8) ++ Z8) S12 124 388 12 136 376 vt _ (Nat.le_refl _) HB.out HY.out.1 HY.out.2 HT.out HL.out.2.2.2.1 (by decide) rfl rfl (by decide)).mono ?_; rintro e w7b ⟨rfl, hl, hb⟩; have HY5 := Lib.hid hl; have HX5 := Lib.hid (HX.out.trans hb); clear hl hb HY HX HT))
  go_upto_region 9 with (first | (go_at_call 33; refine (TZ12.out _).mono ?_; rintro e w8a ⟨vt, rfl, ht, hb⟩; have HY := Lib.hid (And.intro (laying_below HY5.out.1 hb) HY5.out.2); have HX := Lib.hid (below_next HX5.out hb); have HT := Lib.hid ht; clear ht hb HY5 HX5) | (go_at_call 42; refine (field_next w8a w.heap.size w.heap.size B ((((([] ++ F1) ++ P8) ++ Z8) ++ Z8) ++ S12) Z12 136 376 12 148 364 vt _ (Nat.le_refl _) HB.out HY.out.1 HY.out.2 HT.out HL.out.2.2.2.2.1 (by decide) rfl rfl (by decide)).mono ?_; rintro e w8b ⟨rfl, hl, hb⟩; have HY6 := Lib.hid hl; have HX6 := Lib.hid (HX.out.trans hb); clear hl hb HY HX HT))
  go_upto_region 10 with (first | (go_at_call 32; refine (TE8.out _).mono ?_; rintro e w9a ⟨vt, rfl, ht, hb⟩; have HY := Lib.hid (And.intro (laying_below HY6.out.1 hb) HY6.out.2); have HX := Lib.hid (below_next HX6.out hb); have HT := Lib.hid ht; clear ht hb HY6 HX6) | (go_at_call 42; refine (field_next w9a w.heap.size w.heap.size B (((((([] ++ F1) ++ P8) ++ Z8) ++ Z8) ++ S12) ++ Z12) E8 148 364 8 156 356 vt _ (Nat.le_refl _) HB.out HY.out.1 HY.out.2 HT.out HL.out.2.2.2.2.2.1 (by decide) rfl rfl (by decide)).mono ?_; rintro e w9b ⟨rfl, hl, hb⟩; have HY7 := Lib.hid hl; have HX7 := Lib.hid (HX.out.trans hb); clear hl hb HY HX HT))
  go_upto_region 11 with (first | (go_at_call 32; refine (TK1.out _).mono ?_; rintro e w10a ⟨vt, rfl, ht, hb⟩; have HY := Lib.hid (And.intro (laying_below HY7.out.1 hb) HY7.out.2); have HX := Lib.hid (below_next HX7.out hb); have HT := Lib.hid ht; clear ht hb HY7 HX7) | (go_at_call 42; refine (field_next w10a w.heap.size w.heap.size B ((((((([] ++ F1) ++ P8) ++ Z8) ++ Z8) ++ S12) ++ Z12) ++ E8) K1 156 356 1 157 355 vt _ (Nat.le_refl _) HB.out HY.out.1 HY.out.2 HT.out HL.out.2.2.2.2.2.2.1 (by decide) rfl rfl (by decide)).mono ?_; rintro e w10b ⟨rfl, hl, hb⟩; have HY8 := Lib.hid hl; have HX8 := Lib.hid (HX.out.trans hb); clear hl hb HY HX HT))
  go_upto_region 12 with (first | (go_at_call 32; refine (TE100.out _).mono ?_; rintro e w11a ⟨vt, rfl, ht, hb⟩; have HY := Lib.hid (And.intro (laying_below HY8.out.1 hb) HY8.out.2); have HX := Lib.hid (below_next HX8.out hb); have HT := Lib.hid ht; clear ht hb HY8 HX8) | (go_at_call 42; refine (field_next w11a w.heap.size w.heap.size B (((((((([] ++ F1) ++ P8) ++ Z8) ++ Z8) ++ S12) ++ Z12) ++ E8) ++ K1) E100 157 355 100 257 255 vt _ (Nat.le_refl _) HB.out HY.out.1 HY.out.2 HT.out HL.out.2.2.2.2.2.2.2.1 (by decide) rfl rfl (by decide)).mono ?_; rintro e w11b ⟨rfl, hl, hb⟩; have HY9 := Lib.hid hl; have HX9 := Lib.hid (HX.out.trans hb); clear hl hb HY HX HT))
  go_upto_region 13 with (first | (go_at_call 32; refine (TM6.out _).mono ?_; rintro e w12a ⟨vt, rfl, ht, hb⟩; have HY := Lib.hid (And.intro (laying_below HY9.out.1 hb) HY9.out.2); have HX := Lib.hid (below_next HX9.out hb); have HT := Lib.hid ht; clear ht hb HY9 HX9) | (go_at_call 42; refine (field_next w12a w.heap.size w.heap.size B ((((((((([] ++ F1) ++ P8) ++ Z8) ++ Z8) ++ S12) ++ Z12) ++ E8) ++ K1) ++ E100) M6 257 255 6 263 249 vt _ (Nat.le_refl _) HB.out HY.out.1 HY.out.2 HT.out HL.out.2.2.2.2.2.2.2.2.1 (by decide) rfl rfl (by decide)).mono ?_; rintro e w12b ⟨rfl, hl, hb⟩; have HY10 := Lib.hid hl; have HX10 := Lib.hid (HX.out.trans hb); clear hl hb HY HX HT))
  go_upto_region 14 with (first | (go_at_call 32; refine (TV2.out _).mono ?_; rintro e w13a ⟨vt, rfl, ht, hb⟩; have HY := Lib.hid (And.intro (laying_below HY10.out.1 hb) HY10.out.2); have HX := Lib.hid (below_next HX10.out hb); have HT := Lib.hid ht; clear ht hb HY10 HX10) | (go_at_call 42; refine (field_next w13a w.heap.size w.heap.size B (((((((((([] ++ F1) ++ P8) ++ Z8) ++ Z8) ++ S12) ++ Z12) ++ E8) ++ K1) ++ E100) ++ M6) V2 263 249 2 265 247 vt _ (Nat.le_refl _) HB.out HY.out.1 HY.out.2 HT.out HL.out.2.2.2.2.2.2.2.2.2.1 (by decide) rfl rfl (by decide)).mono ?_; rintro e w13b ⟨rfl, hl, hb⟩; have HY11 := Lib.hid hl; have HX11 := Lib.hid (HX.out.trans hb); clear hl hb HY HX HT))
  go_upto_region 15 with (first | (go_at_call 32; refine (TE32.out _).mono ?_; rintro e w14a ⟨vt, rfl, ht, hb⟩; have HY := Lib.hid (And.intro (laying_below HY11.out.1 hb) HY11.out.2); have HX := Lib.hid (below_next HX11.out hb); have HT := Lib.hid ht; clear ht hb HY11 HX11) | (go_at_call 42; refine (field_next w14a w.heap.size w.heap.size B ((((((((((([] ++ F1) ++ P8) ++ Z8) ++ Z8) ++ S12) ++ Z12) ++ E8) ++ K1) ++ E100) ++ M6) ++ V2) E32 265 247 32 297 215 vt _ (Nat.le_refl _) HB.out HY.out.1 HY.out.2 HT.out HL.out.2.2.2.2.2.2.2.2.2.2.1 (by decide) rfl rfl (by decide)).mono ?_; rintro e w14b ⟨rfl, hl, hb⟩; have HY12 := Lib.hid hl; have HX12 := Lib.hid (HX.out.trans hb); clear hl hb HY HX HT))
  go_upto_region 16 with (first | (go_at_call 32; refine (TE32.out _).mono ?_; rintro e w15a ⟨vt, rfl, ht, hb⟩; have HY := Lib.hid (And.intro (laying_below HY12.out.1 hb) HY12.out.2); have HX := Lib.hid (below_next HX12.out hb); have HT := Lib.hid ht; clear ht hb HY12 HX12) | (go_at_call 42; refine (field_next w15a w.heap.size w.heap.size B (((((((((((([] ++ F1) ++ P8) ++ Z8) ++ Z8) ++ S12) ++ Z12) ++ E8) ++ K1) ++ E100) ++ M6) ++ V2) ++ E32) E32 297 215 32 329 183 vt _ (Nat.le_refl _) HB.out HY.out.1 HY.out.2 HT.out HL.out.2.2.2.2.2.2.2.2.2.2.1 (by decide) rfl rfl (by decide)).mono ?_; rintro e w15b ⟨rfl, hl, hb⟩; have HY13 := Lib.hid hl; have HX13 := Lib.hid (HX.out.trans hb); clear hl hb HY HX HT))
  go_upto_region 17 with (first | (go_at_call 33; refine (TZ8.out _).mono ?_; rintro e w16a ⟨vt, rfl, ht, hb⟩; have HY := Lib.hid (And.intro (laying_below HY13.out.1 hb) HY13.out.2); have HX := Lib.hid (below_next HX13.out hb); have HT := Lib.hid ht; clear ht hb HY13 HX13) | (go_at_call 42; refine (field_next w16a w.heap.size w.heap.size B ((((((((((((([] ++ F1) ++ P8) ++ Z8) ++ Z8) ++ S12) ++ Z12) ++ E8) ++ K1) ++ E100) ++ M6) ++ V2) ++ E32) ++ E32) Z8 329 183 8 337 175 vt _ (Nat.le_refl _) HB.out HY.out.1 HY.out.2 HT.out HL.out.2.2.1 (by decide) rfl rfl (by decide)).mono ?_; rintro e w16b ⟨rfl, hl, hb⟩; have HY14 := Lib.hid hl; have HX14 := Lib.hid (HX.out.trans hb); clear hl hb HY HX HT))
  go_upto_region 18 with (first | (go_at_call 33; refine (TZ8.out _).mono ?_; rintro e w17a ⟨vt, rfl, ht, hb⟩; have HY := Lib.hid (And.intro (laying_below HY14.out.1 hb) HY14.out.2); have HX := Lib.hid (below_next HX14.out hb); have HT := Lib.hid ht; clear ht hb HY14 HX14) | (go_at_call 42; refine (field_next w17a w.heap.size w.heap.size B (((((((((((((([] ++ F1) ++ P8) ++ Z8) ++ Z8) ++ S12) ++ Z12) ++ E8) ++ K1) ++ E100) ++ M6) ++ V2) ++ E32) ++ E32) ++ Z8) Z8 337 175 8 345 167 vt _ (Nat.le_refl _) HB.out HY.out.1 HY.out.2 HT.out HL.out.2.2.1 (by decide) rfl rfl (by decide)).mono ?_; rintro e w17b ⟨rfl, hl, hb⟩; have HY15 := Lib.hid hl; have HX15 := Lib.hid (HX.out.trans hb); clear hl hb HY HX HT))
  go_upto_region 19 with (first | (go_at_call 32; refine (TF155.out _).mono ?_; rintro e w18a ⟨vt, rfl, ht, hb⟩; have HY := Lib.hid (And.intro (laying_below HY15.out.1 hb) HY15.out.2); have HX := Lib.hid (below_next HX15.out hb); have HT := Lib.hid ht; clear ht hb HY15 HX15) | (go_at_call 42; refine (field_next w18a w.heap.size w.heap.size B ((((((((((((((([] ++ F1) ++ P8) ++ Z8) ++ Z8) ++ S12) ++ Z12) ++ E8) ++ K1) ++ E100) ++ M6) ++ V2) ++ E32) ++ E32) ++ Z8) ++ Z8) F155 345 167 155 500 12 vt _ (Nat.le_refl _) HB.out HY.out.1 HY.out.2 HT.out HL.out.2.2.2.2.2.2.2.2.2.2.2.1 (by decide) rfl rfl (by decide)).mono ?_; rintro e w18b ⟨rfl, hl, hb⟩; have HY16 := Lib.hid hl; have HX16 := Lib.hid (HX.out.trans hb); clear hl hb HY HX HT))
  have HZ := Lib.hid (show Laying w18b w.heap.size B (A ++ (E8 ++ C)) 500 12 12 by rw [← HE.out]; exact HY16.out.1)
  clear HY16 HE
  go_upto_region 20 with (first | (go_at_call 31; refine (layer_any w18b ⟨w.heap.size, 148, none⟩ 8 364).mono ?_; rintro e w2 ⟨rfl, rfl⟩))
  obtain ⟨w2, hw2⟩ : ∃ w2, w2 = w18b.alloc (.cells #[.slice (some ⟨w.heap.size, 148, none⟩) 8 364] 22 (0, 0)) := ⟨_, rfl⟩
  have HY := Lib.hid (show Laying w2 w.heap.size w18b.heap.size (A ++ (E8 ++ C)) 148 8 364 by
    have hlt := lt_of_block HZ.out.1
    refine ⟨?_, ?_, by omega⟩
    · rw [hw2, heap_at_alloc, if_neg (by omega)]; exact HZ.out.1
    · rw [hw2]; exact heap_last _ _)
  have HX := Lib.hid (show Below w.heap.size w w2 by rw [hw2]; exact HX16.out.alloc HX16.out.size _)
  have HB2 := Lib.hid (show w.heap.size ≤ w18b.heap.size from HX16.out.size)
  have HS := Lib.hid (show (A ++ (E8 ++ C)).length = 512 ∧ Q7.length = 7 ∧ splice (splice (A ++ (E8 ++ C)) 148 Q7) 155 [32] = A ++ (Q7 ++ ([32] ++ C)) ∧ (splice (A ++ (E8 ++ C)) 148 Q7).length = 512 ∧ (A ++ (Q7 ++ ([32] ++ C))).length = 512 by
    have lA := HL.out.2.2.2.2.2.2.2.2.2.2.2.2.1
    have lC := HL.out.2.2.2.2.2.2.2.2.2.2.2.2.2.1
    have lQ := HL.out.2.2.2.2.2.2.2.2.2.2.2.2.2.2.1
    have lE := HL.out.2.2.2.2.2.2.2.2.2.2.2.2.2.2.2
    obtain ⟨e1, e2⟩ := sum_laid A E8 C Q7 lA lE lQ
    refine ⟨by simp only [List.length_append, lA, lE, lC], lQ, e2, ?_, by simp only [List.length_append, lA, lQ, lC]; rfl⟩
    rw [e1]; simp only [List.length_append, List.length_drop, lA, lQ, lC, lE])
  rw [← hw2]
  clear hw2 HZ HX16 HB
  generalize w18b.heap.size = B2 at *
  go_upto_region 21 with (first | (go_at_call 34; refine (CK.out w2 _ (text_of_row HY.out.1 HS.out.1)).mono ?_; rintro e w3 ⟨rfl, hb⟩; have HY3 := Lib.hid (laying_below HY.out hb); have HX3 := Lib.hid (below_next HX.out hb); clear hb HY HX) | (go_at_call 33; refine (TS.out _).mono ?_; rintro e w4 ⟨vt, rfl, ht, hb⟩; have HY4 := Lib.hid (laying_below HY3.out hb); have HX4 := Lib.hid (below_next HX3.out hb); have HT := Lib.hid ht; clear ht hb HY3 HX3) | (go_at_call 42; refine (field_any w4 w.heap.size w.heap.size B2 _ Q7 148 8 364 vt _ (Nat.le_refl _) HB2.out HY4.out HT.out (fun h => by have := HS.out.2.1; rw [h] at this; simp at this) (by rw [HS.out.2.1]; decide) (by rw [HS.out.2.1]; decide) (by rw [HS.out.1]; decide)).mono ?_; rw [HS.out.2.1]; rintro e w5 ⟨rfl, hl, hb⟩; have HY5 := Lib.hid hl; have HX5 := Lib.hid (HX4.out.trans hb); clear hl hb HY4 HX4 HT))
  go_upto_region 22 with (first | (go_at_call 32; refine (TB.out _).mono ?_; rintro e w6 ⟨vt, rfl, ht, hb⟩; have HY6 := Lib.hid (laying_below HY5.out hb); have HX6 := Lib.hid (below_next HX5.out hb); have HT := Lib.hid ht; clear ht hb HY5 HX5) | (go_at_call 42; refine (field_any w6 w.heap.size w.heap.size B2 _ [32] 155 1 357 vt _ (Nat.le_refl _) HB2.out HY6.out HT.out (by simp) (by simp) (by simp) (by rw [HS.out.2.2.2.1]; decide)).mono ?_; rintro e w7 ⟨rfl, hl, hb⟩; have HY7 := Lib.hid hl; have HX7 := Lib.hid (HX6.out.trans hb); clear hl hb HY6 HX6 HT))
  go_wp2
  go_ret
  have hr := HY7.out.1
  rw [HS.out.2.2.1] at hr
  refine ⟨_, rfl, ?_, HX7.out⟩
  rw [HW.out]
  refine ⟨text_of_row hr HS.out.2.2.2.2, fun ad n cap e => ?_⟩
  cases e
  refine ⟨Nat.le_refl _, rfl, fun k _ => ?_⟩
  rw [Addr.add_lit]
  simp [World.frozen?, hr]
end Go.Proofs.YtbjekhhefepnlaaDoor
