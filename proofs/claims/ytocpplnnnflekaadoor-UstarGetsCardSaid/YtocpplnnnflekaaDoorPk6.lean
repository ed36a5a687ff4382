/-
Texts that all claims of this seat share, part 6: UstarPut, Labels, UstarGet, UstarCode, OpenBytes, OpenRows, OpenFiles.
-/
import Derived.Laws.CopyOwn
import Derived.ScopeJumps
import Derived.WalkMore
import Derived.ChangeSlices
import Derived.OpenShut
import Derived.ProofKit
import Derived.SizedLaws
import Derived.Deep.Matrix
import Derived.Deep.SlicePairs
import Derived.Test.YtocpplnnnflekaaDoorPk5
namespace Go.Proofs.YtocpplnnnflekaaDoor
open Go.RowKit
set_option maxRecDepth 100000 in
theorem sizeU_up (zs : List Int) (h : ∀ z ∈ zs, 0 ≤ z ∧ z ≤ 4194304) : 1024 ≤ sizeU zs ∧ sizeU zs ≤ 1024 + zs.length * 4194816 := by
  induction zs with
  | nil => simp [sizeU]
  | cons z t ih =>
    obtain ⟨h1, h2⟩ := ih fun y hy => h y (List.mem_cons.2 (.inr hy))
    have h3 := h z (List.mem_cons.2 (.inl rfl))
    have h4 : 0 ≤ roundZ z ∧ roundZ z ≤ 4194304 := by unfold roundZ; split <;> omega
    rw [sizeU, List.length_cons]; omega
set_option maxRecDepth 100000 in
theorem size_sums (s r : Int) (h1 : 0 ≤ s ∧ s ≤ 9000000000) (h2 : 0 ≤ r ∧ r ≤ 4194304) : ∃ q : Int, 512 + r = q ∧ wrap64 q = q ∧ wrap64 (512 + r) = q ∧ wrap64 (s + q) = s + q ∧ s + q = s + 512 + r := by
  refine ⟨512 + r, rfl, ?_, ?_, ?_, by omega⟩ <;> rw [wrap64] <;> omega
set_option maxRecDepth 100000 in
set_option maxHeartbeats 4000000 in
theorem size_any (w : World) (v : Value) (zs : List Int) (hv : HasInts w v zs) (hl : zs.length ≤ 400) (hz : ∀ z ∈ zs, 0 ≤ z ∧ z ≤ 4194304) : Calls Tryd.prog 14 #[v] w fun e w' => e = .returned (.int .i64 (sizeU zs)) ∧ Below w.heap.size w w' := by
  obtain ⟨n, hn⟩ : ∃ n, n = zs.length := ⟨_, rfl⟩
  obtain ⟨ao, cap, rfl⟩ := ints_shape hv n hn
  have HV := Lib.hid hv
  have HN := Lib.hid hn
  have HZ := Lib.hid hz
  rw [← hn] at hl
  clear hn hv hz
  go_enter Tryd.func14, Tryd.ntmps14
  go_wp2
  go_loopw [3, 8] (fun s i wr => Below w.heap.size w wr ∧ ∃ k : Nat, k ≤ n ∧ i = .int .i64 k ∧ s = .int .i64 (sizeU (zs.take k))) (fun _ i _ => n - (intOf i).toNat)
  case atStart => exact ⟨Below.refl _ _, 0, by omega, rfl, rfl⟩
  case round =>
    obtain ⟨hb, k, hk, rfl, rfl⟩ := hrel
    have HB := Lib.hid hb
    by_cases hlt : k < n
    · obtain ⟨z, hz⟩ : ∃ z, zs[k]? = some z := ⟨zs[k]'(by have := HN.out; omega), List.getElem?_eq_getElem _⟩
      obtain ⟨ad, cap', e, c1⟩ := ints_at (ints_below HV.out hb) n k HN.out.symm z hz
      cases e
      have hzb := HZ.out z (List.mem_of_getElem? hz)
      have R1 := Lib.hid (fun w => round7_any z (by omega) w)
      have HS := Lib.hid (sizeU_take zs k z hz)
      have hsb := sizeU_up (zs.take k) fun y hy => HZ.out y (List.mem_of_mem_take hy)
      have htl : (zs.take k).length ≤ 400 := by rw [List.length_take, ← HN.out]; omega
      obtain ⟨s, hs⟩ : ∃ s, sizeU (zs.take k) = s := ⟨_, rfl⟩
      obtain ⟨r, hr⟩ : ∃ r, roundZ z = r := ⟨_, rfl⟩
      have hrb : 0 ≤ r ∧ r ≤ 4194304 := by rw [← hr]; unfold roundZ; split <;> omega
      rw [hs] at HS hsb
      rw [hr] at HS R1
      obtain ⟨q, hq, ew0, ew1, ew2, hq2⟩ := size_sums s r (by omega) hrb
      have q0 : (k : Int) < (n : Int) := by clear ew0 ew1 ew2; omega
      rw [hs]
      have HQ := Lib.hid hq2
      clear hs hr hzb hsb htl hrb hz hb hq2
      go_wp2_with (first | (go_at_call 22; refine (R1.out _).mono ?_; rintro e w3 ⟨rfl, hb3⟩; have HB3 := Lib.hid (below_next HB.out hb3); clear hb3))
      go_roundw
      case rel => exact ⟨HB3.out, k + 1, by clear ew0 ew1 ew2; omega, by go_num, by rw [ew2, HQ.out, HS.out]⟩
      case measure => clear ew0 ew1 ew2; simp [intOf]; omega
    · obtain rfl : k = n := by omega
      have HE := Lib.hid (show zs.take k = zs from List.take_of_length_le (by rw [← HN.out]; omega))
      clear hlt
      rw [HE.out]
      go_wp2
      go_ret
      exact ⟨rfl, HB.out⟩
def byteL (l : List UInt8) : List Value := l.map fun b => Value.int .u8 (b.toNat : Int)
theorem byteRow_list (l : List UInt8) : byteRow l = (byteL l).toArray := rfl
theorem byteL_len (l : List UInt8) : (byteL l).length = l.length := List.length_map _
theorem byteL_one (l : List UInt8) : ∀ v ∈ byteL l, v.oneCell' = true := fun v hv => by
  obtain ⟨c, -, rfl⟩ := List.mem_map.1 hv; rfl
theorem splice_zeros (A c : List UInt8) (k : Nat) : splice (byteL (A ++ zeros k)) A.length (byteL c) = byteL ((A ++ c) ++ zeros (k - c.length)) := by
  unfold splice byteL
  rw [List.length_map, ← List.map_take, ← List.map_drop, ← List.map_append, ← List.map_append, List.take_left, ← List.drop_drop, List.drop_left, zeros, List.drop_replicate, zeros, List.append_assoc]
theorem text_src {w : World} {sp : Option Addr} {n c : Nat} {l : List UInt8} (h : HasText w (.slice sp n c) l) (h0 : 0 < (byteL l).length) : ∃ ad, sp = some ad ∧ ∀ j v, (byteL l)[j]? = some v → w.cell? (ad.add j) = some v := by
  obtain ⟨ao, cap, e, hnil, hc⟩ := h
  cases e
  cases sp with
  | none =>
    obtain ⟨e, -⟩ := hnil rfl
    rw [List.map_eq_nil_iff] at e
    subst e; cases h0
  | some ad => exact ⟨ad, rfl, fun j v hj => (hc ad rfl).2 j v (by rw [bytesL_map]; exact hj)⟩
theorem cut_from {P : Program} {t e : TypeId} (ht : P.underlying t = some (.slice e)) (he : (P.info? e).map (·.size) = some 1) (ad : Addr) (len cap lo : Nat) (h1 : lo ≤ len) (h3 : lo < cap) :
    ∀ w, (Instr.sliceAt t (.slice (some ad) len cap) (some (.int .i64 (lo : Int))) none none).run P w = .ok (.slice (some (ad.add lo)) (len - lo) (cap - lo)) w := fun w => by
  have hel : P.elem t = e := by simp [Program.elem, ht]
  obtain ⟨inf, hinf, hs⟩ : ∃ inf, P.info? e = some inf ∧ inf.size = 1 := by
    cases h : P.info? e with
    | none => simp [h] at he
    | some i => exact ⟨i, rfl, by simpa [h] using he⟩
  have hce : P.cellsOf e = 1 := by simp [Program.cellsOf, hinf, hs]
  have hsl : P.underlying t = some (.slice (P.elem t)) := by rw [hel]; exact ht
  rw [run_sliceAt_slice _ _ _ _ _ _ hsl, run_slice_l _ _ _ _ _ hsl _ _ (by omega) (by omega), hel, run_sizeOf w hinf, hce]
  have h : cap ≠ lo := by omega
  simp [sliced, h]
theorem sizeU_one (zs : List Int) : 1024 ≤ sizeU zs ↔ True := ⟨fun _ => trivial, fun _ => by
  induction zs with
  | nil => simp [sizeU]
  | cons z t ih =>
    have : 0 ≤ roundZ z := by unfold roundZ; split <;> omega
    rw [sizeU]; omega⟩
theorem small_size {l : List F8} {N : Nat} (hl : l.length ≤ 200) (ht : totalB l ≤ 60000) (hN : sizeU (lensF l) = (N : Int)) : N ≤ 9000000 := by
  have key : ∀ l : List F8, sizeU (lensF l) ≤ 1024 + (l.length * 1024 + totalB l : Nat) := fun l => by
    induction l with
    | nil => simp [lensF, sizeU, totalB]
    | cons f t ih =>
      have h1 : sizeU (lensF (f :: t)) = 512 + roundZ (f.2.length : Int) + sizeU (lensF t) := rfl
      have h2 := padN_round f.2.length
      have h3 : padN f.2.length < 512 := Nat.mod_lt _ (by decide)
      rw [h1, totalB, List.length_cons]; omega
  have := key l
  omega
theorem room {l : List F8} {k N : Nat} (h : firstErr (l.take k) = 0) (hN : sizeU (lensF l) = (N : Int)) : (bodyB (l.take k)).length + 1024 ≤ N := by
  have h1 := bodyB_len h
  have h2 : lensF l = lensF (l.take k) ++ lensF (l.drop k) := by rw [lensF, lensF, lensF, ← List.map_append, List.take_append_drop]
  have h3 := (sizeU_one (lensF (l.drop k))).2 trivial
  rw [h2, sizeU_append] at hN
  have h4 : sizeU (List.map (fun f => (f.2.length : Int)) (l.take k)) = sizeU (lensF (l.take k)) := rfl
  omega
theorem room_all {l : List F8} {N : Nat} (h : firstErr l = 0) (hN : sizeU (lensF l) = (N : Int)) : (bodyB l).length + 1024 = N := by
  have h1 := bodyB_len h
  have h4 : sizeU (List.map (fun f => (f.2.length : Int)) l) = sizeU (lensF l) := rfl
  omega
theorem put_path {p : List UInt8} {n : Int} (h : putHErr p n = 0) : p.length ≤ 256 := by
  obtain ⟨h1, h2, -⟩ := get_putH h
  have := (path_le h1).1
  rwa [h2] at this
theorem row_own {w : World} {base g n : Nat} {t : TypeId} {l : List UInt8} (h : w.heap[g]? = some (.cells (byteRow l) t (0, 0))) (hn : l.length = n) (hb : base ≤ g) : OwnText w base (.slice (some ⟨g, 0, none⟩) n n) l := by
  refine ⟨text_of_row h hn, fun ad n' cap' e => ?_⟩
  cases e
  exact ⟨hb, rfl, fun k _ => by rw [Addr.add_lit]; exact frozen_of_row w g _ _ _ h⟩
theorem own_none (w : World) (base : Nat) : OwnText w base (.slice none 0 0) [] := ⟨hasText_nil _, fun ad n cap e => by cases e⟩
/-- Where a file goes, and what is left behind it. -/
theorem arch_nums (a r N m p : Nat) (h1 : a + r = N) (h2 : a + (512 + (m + p)) + 1024 ≤ N) (hN : N ≤ 9000000) :
    ∃ a5 r5 a6 r6 R q : Nat, R = m + p ∧ a5 = a + 512 ∧ r5 = r - 512 ∧ q = 512 + R ∧ a6 = a + q ∧ r6 = r - q ∧ 512 < r ∧ q < r ∧ m ≤ r5 ∧ a6 + r6 = N ∧ r5 - m = p + r6 ∧ ((512 : Int) + (R : Int) = (q : Int)) ∧ wrap64 (q : Int) = (q : Int) ∧ Nat.min 512 r = 512 ∧ Nat.min m r5 = m := by
  refine ⟨a + 512, r - 512, a + (512 + (m + p)), r - (512 + (m + p)), m + p, 512 + (m + p), rfl, rfl, rfl, rfl, rfl, rfl, by omega, by omega, by omega, by omega, by omega, by omega, by rw [wrap64]; omega, ?_, ?_⟩
  · exact Nat.min_eq_left (by omega)
  · exact Nat.min_eq_left (by omega)
set_option maxRecDepth 100000 in
set_option maxHeartbeats 16000000 in
theorem put8_any (w : World) (v : Value) (l : List F8) (hv : HasFiles w v l) (hp : ∀ f ∈ l, f.1.length < 1152921504606846976) (hl : l.length ≤ 200) (ht : totalB l ≤ 60000) :
    Calls Tryd.prog 12 #[v] w fun e w' => ∃ x, e = .returned (.tuple #[x, .int .i64 (putUErr l)]) ∧ OwnText w' w.heap.size x (putU l) ∧ Below w.heap.size w w' := by
  obtain ⟨i0, hi, hz0, hz1, hz2⟩ := info_parts infoByte8
  obtain ⟨n, hn⟩ : ∃ n, n = l.length := ⟨_, rfl⟩
  obtain ⟨ao, cap, rfl⟩ := files_shape hv n hn
  have HV := Lib.hid hv
  have HN := Lib.hid hn
  have HP := Lib.hid hp
  have HT := Lib.hid ht
  have HU := Lib.hid (putU_small hl ht)
  have HLL := Lib.hid hl
  have HLN : Hid ((lensF l).length = n) := Lib.hid (by rw [lensF, List.length_map]; exact hn.symm)
  have HZ := Lib.hid (show ∀ z ∈ lensF l, 0 ≤ z ∧ z ≤ 4194304 from fun z hz => by
    obtain ⟨f, hf, rfl⟩ := List.mem_map.1 hz
    have := total_at hf
    omega)
  have hsz := sizeU_up (lensF l) HZ.out
  obtain ⟨N, hN⟩ : ∃ N : Nat, sizeU (lensF l) = (N : Int) := ⟨(sizeU (lensF l)).toNat, by omega⟩
  have HNN := Lib.hid hN
  have hN9 : N ≤ 9000000 := small_size hl ht hN
  have HN9 := Lib.hid hN9
  obtain ⟨T, hT⟩ : ∃ T, totalB l = T := ⟨_, rfl⟩
  rw [← hn] at hl
  have S1 := Lib.hid (show ∀ w v, HasFiles w v l → Calls Tryd.prog 19 #[v] w fun e w' => e = .returned (.tuple #[.slice (some ⟨w.heap.size, 0, none⟩) n n, .int .i64 (T : Int)]) ∧ HasInts w' (.slice (some ⟨w.heap.size, 0, none⟩) n n) (lensF l) ∧ Below w.heap.size w w' from fun w v hv => by
    have h := sizes_any w v l hv HLL.out HT.out
    rw [hT, ← HN.out] at h; exact h)
  have S2 := Lib.hid (show ∀ w v, HasInts w v (lensF l) → Calls Tryd.prog 14 #[v] w fun e w' => e = .returned (.int .i64 (N : Int)) ∧ Below w.heap.size w w' from fun w v hv => by
    have h := size_any w v (lensF l) hv (by rw [HLN.out]; omega) HZ.out
    rw [HNN.out] at h; exact h)
  have S3 := Lib.hid (fun w => tooMuch_any (n : Int) (T : Int) (by omega) (by omega) w)
  clear hn hv hp ht hsz hN hT HZ hN9
  go_enter Tryd.func12, Tryd.ntmps12
  go_upto_region 2 with (first | (go_at_call 19; refine (S1.out _ _ HV.out).mono ?_; rintro e w1 ⟨rfl, hx, hb⟩; have HX := Lib.hid hx; have HB1 := Lib.hid hb; clear hx hb))
  go_upto_region 4 with (first | (go_at_call 20; refine (S3.out _).mono ?_; rintro e w2 ⟨rfl, rfl⟩))
  go_upto_region 5 with (first
    | (go_at_call 14; refine (S2.out _ _ HX.out).mono ?_; rintro e w2 ⟨rfl, hb⟩; have HB2 := Lib.hid hb; clear hb)
    | (refine wpList_make_full _ rfl (.tmp 22) (.tmp 22) 25 rfl w1.heap.size 5 i0 (.int .u8 0) 1 Tryd.underlying25 hi hz0 hz1 .i64 .i64 (N : Int) (N : Int) N rfl rfl rfl rfl (by rw [hz2]; have := HN9.out; omega) (by unfold maxLen; have := HN9.out; omega) HB2.out.size ?_; intro w3 ho3 hg3; have HO3 := Lib.hid ho3; have HG3 := Lib.hid hg3; clear ho3 hg3))
  have HC3 := Lib.hid (made_row HO3.out)
  have HB3 := Lib.hid (below_grown HB2.out HG3.out HB2.out.size (fun k hk => by cases hk))
  have HGB := Lib.hid HB2.out.size
  clear HO3 HG3 HB2
  generalize w2.heap.size = g at *
  go_wp2
  go_loopw [7, 27] (fun rest i wr => ∃ j a r : Nat, j ≤ n ∧ i = .int .i64 j ∧ firstErr (l.take j) = 0 ∧ (bodyB (l.take j)).length = a ∧ a + r = N ∧ rest = .slice (some ⟨g, a, none⟩) r r ∧ wr.heap[g]? = some (.cells (byteRow (bodyB (l.take j) ++ zeros r)) 5 (0, 0)) ∧ Below w1.heap.size w1 wr) (fun _ i _ => n - (intOf i).toNat)
  case atStart => exact ⟨0, 0, N, Nat.zero_le _, rfl, rfl, rfl, Nat.zero_add _, rfl, HC3.out, HB3.out⟩
  case round =>
    obtain ⟨j, a, r, hj, rfl, hfe, ha, har, rfl, hrow, hb⟩ := hrel
    have HB := Lib.hid hb
    have HFE := Lib.hid hfe
    have HROW := Lib.hid hrow
    have HA := Lib.hid (And.intro ha har)
    have HBW := Lib.hid (below_next HB1.out hb)
    by_cases hjn : j < n
    · obtain ⟨f, hf⟩ : ∃ f, l[j]? = some f := ⟨l[j]'(by have := HN.out; omega), List.getElem?_eq_getElem _⟩
      obtain ⟨ad, cap', u, e, c0, c1, hft0⟩ := files_at HV.out n j HN.out.symm f hf
      cases e
      have hft := text_keep hft0 HBW.out
      replace c0 := cell_held c0 HBW.out
      replace c1 := cell_held c1 HBW.out
      obtain ⟨F1, F2⟩ := f
      obtain ⟨ao', cu, rfl⟩ := text_len hft F2.length rfl
      dsimp only at c0 c1 hft hft0
      obtain ⟨m, hm⟩ : ∃ m, m = F2.length := ⟨_, rfl⟩
      have hz : (lensF l)[j]? = some (m : Int) := by rw [lensF, List.getElem?_map, hf, hm]; rfl
      obtain ⟨sd, sc, e, c2⟩ := ints_at (ints_below HX.out HB.out) n j HLN.out (m : Int) hz
      cases e
      rw [Addr.add_lit, Nat.zero_add] at c2
      have HZJ := Lib.hid hz
      have hmt : m ≤ 60000 := by rw [hm]; exact Nat.le_trans (total_at (List.mem_of_getElem? hf)) HT.out
      have P1 := Lib.hid (fun w => headerFace.put w F1 (m : Int) (HP.out _ (List.mem_of_getElem? hf)) (by omega) (by omega))
      have R1 := Lib.hid (fun w => round7_any (m : Int) (by omega) w)
      have HFF := Lib.hid hf
      have HM := Lib.hid (And.intro hm hmt)
      rw [← hm] at c1 hft hft0
      have HFT := Lib.hid hft
      have HFT0 := Lib.hid hft0
      have HJ := Lib.hid hjn
      have q0 : (j : Int) < (n : Int) := by omega
      obtain ⟨E, hE⟩ : ∃ E, putHErr F1 (m : Int) = E := ⟨_, rfl⟩
      rw [hE] at P1
      have HE := Lib.hid hE
      clear hrow hb hfe ha har hf hm hmt hft hft0 hjn hz hE hj
      go_upto_region 9 with fail
      have H7 := heap_last wr (.cells #[.string (str F1), .slice ao' m cu] 33)
      have HB4 := Lib.hid ((Below.refl wr.heap.size wr).alloc (Nat.le_refl _) (.cells #[.string (str F1), .slice ao' m cu] 33))
      have HFT4 := Lib.hid (text_keep HFT.out HB4.out)
      replace c2 := cell_held c2 HB4.out
      clear c0 c1
      generalize wr.alloc (.cells #[.string (str F1), .slice ao' m cu] 33) = w4 at *
      have c6 : w4.cell? ⟨wr.heap.size, 0, none⟩ = some (.string (str F1)) := cell_of_row w4 _ 0 _ _ _ H7
      have c7 : w4.cell? ⟨wr.heap.size, 1, none⟩ = some (.slice ao' m cu) := cell_of_row w4 _ 1 _ _ _ H7
      clear H7
      go_wp2
      refine wp_region_held_drew (S := fun w' => Below w4.heap.size w4 w') (by kernel_rfl) (below_draws (Below.refl w4.heap.size w4) 1) (fun hHeld => ?_)
      generalize w4.drew = wd at hHeld ⊢
      refine take_at (i := 0) 33 rfl rfl (by kernel_rfl) (by kernel_rfl) (by kernel_rfl) (fun _ _ _ h => h) (sure_yes (by rfl) (fun w => by go_simp; try with_reducible rfl)) hHeld ?_
      simp only [List.setIfInBounds_toArray, List.set_cons_zero, List.set_cons_succ]
      refine take_at (i := 2) 35 rfl rfl (by kernel_rfl) (by kernel_rfl) (by kernel_rfl) (fun _ _ _ h => h) (sure_yes (by rfl) (fun w => by go_simp; try with_reducible rfl)) hHeld ?_
      simp only [List.setIfInBounds_toArray, List.set_cons_zero, List.set_cons_succ]
      refine take_at (i := 3) 36 rfl rfl (by kernel_rfl) (by kernel_rfl) (by kernel_rfl) (fun _ _ _ h => h) (sure_yes (by rfl) (fun w => by go_simp; try with_reducible rfl)) hHeld ?_
      simp only [List.setIfInBounds_toArray, List.set_cons_zero, List.set_cons_succ]
      refine take_at (i := 4) 37 rfl rfl (by kernel_rfl) (by kernel_rfl) (by kernel_rfl) (fun _ _ _ h => h) (sure_yes (by rfl) (fun w => by go_simp; try with_reducible rfl)) hHeld ?_
      simp only [List.setIfInBounds_toArray, List.set_cons_zero, List.set_cons_succ]
      refine take_at (i := 1) 34 rfl rfl (by kernel_rfl) (by kernel_rfl) (by kernel_rfl) (fun _ _ _ h => h) (str_yields (by rfl) 9 (.tmp 33) rfl _ rfl _ Tryd.underlying9 (fun _ h => cell_held c6 h)) hHeld ?_
      simp only [List.setIfInBounds_toArray, List.set_cons_zero, List.set_cons_succ]
      refine take_at (i := 5) 38 rfl rfl (by kernel_rfl) (by kernel_rfl) (by kernel_rfl) (fun _ _ _ h => h) (cell_yields (by rfl) 3 (.tmp 37) rfl _ _ rfl .i64 _ Tryd.underlying3 (fun _ h => cell_held c2 h)) hHeld ?_
      simp only [List.setIfInBounds_toArray, List.set_cons_zero, List.set_cons_succ]
      refine wpAnyH_ready (rs := [6]) (by kernel_rfl) (by simp) ?_
      refine AllReadyH.cons rfl (fun K hK => ?_) AllReadyH.nil
      go_simp
      go_at_call 21
      refine (P1.out _).mono ?_
      rintro e w5 ⟨x5, rfl, hx, hb5⟩
      dsimp only
      have HX5 := Lib.hid hx.1
      refine hK.out _ _ (hHeld.trans (hb5.mono hHeld.size)) (fun hHeld => ?_)
      clear hK K hx
      refine take_at (i := 7) 32 rfl rfl (by kernel_rfl) (by kernel_rfl) (by kernel_rfl) (fun _ _ _ h => h) (sure_yes (by rfl) (fun w => by go_simp; try with_reducible rfl)) hHeld ?_
      simp only [List.setIfInBounds_toArray, List.set_cons_zero, List.set_cons_succ]
      refine take_at (i := 8) 40 rfl rfl (by kernel_rfl) (by kernel_rfl) (by kernel_rfl) (fun _ _ _ h => h) (sure_yes (by rfl) (fun w => by go_simp; try with_reducible rfl)) hHeld ?_
      simp only [List.setIfInBounds_toArray, List.set_cons_zero, List.set_cons_succ]
      refine take_at (i := 9) 41 rfl rfl (by kernel_rfl) (by kernel_rfl) (by kernel_rfl) (fun _ _ _ h => h) (sure_yes (by rfl) (fun w => by go_simp; try with_reducible rfl)) hHeld ?_
      simp only [List.setIfInBounds_toArray, List.set_cons_zero, List.set_cons_succ]
      refine take_at (i := 10) 10 rfl rfl (by kernel_rfl) (by kernel_rfl) (by kernel_rfl) (fun _ _ _ h => h) (sure_yes (by rfl) (fun w => by go_simp; try with_reducible rfl)) hHeld ?_
      simp only [List.setIfInBounds_toArray, List.set_cons_zero, List.set_cons_succ]
      refine take_at (i := 11) 11 rfl rfl (by kernel_rfl) (by kernel_rfl) (by kernel_rfl) (fun _ _ _ h => h) (sure_yes (by rfl) (fun w => by go_simp; try with_reducible rfl)) hHeld ?_
      simp only [List.setIfInBounds_toArray, List.set_cons_zero, List.set_cons_succ]
      refine wpAnyH_done (by kernel_rfl) ?_ _
      have hk5 := HB4.out.trans (hHeld.mono HB4.out.size)
      have HK5 := Lib.hid (HB.out.trans (hk5.mono HB.out.size))
      have HF5 := Lib.hid (text_keep HFT4.out hHeld)
      have d2 := cell_held c2 hHeld
      have d7 := cell_held c7 hHeld
      have HR5 := Lib.hid ((hk5.block g (Array.getElem?_eq_some_iff.1 HROW.out).1).trans HROW.out)
      clear c2 c6 c7 hHeld hk5
      by_cases hE0 : E = 0
      · subst hE0
        have HPL := Lib.hid (show (putH F1 (m : Int)).length = 512 from putH_len HE.out)
        have HNX := Lib.hid (err_next HFF.out HFE.out (by show putHErr F1 (F2.length : Int) = 0; rw [← HM.out.1]; exact HE.out))
        have HBN := Lib.hid (body_next HFF.out)
        obtain ⟨p, hpd⟩ : ∃ p, p = padN m := ⟨_, rfl⟩
        have hroom := room HNX.out HNN.out
        obtain ⟨a5, r5, a6, r6, R, q, hR, ha5, hr5, hq, ha6, hr6, h512, hqr, hmr, har6, hzr, hq2, hqw, hmin1, hmin2⟩ := arch_nums a r N m p HA.out.2 (by
          have h1 := congrArg List.length HBN.out
          rw [List.length_append, List.length_append, List.length_append, zerosL, List.length_replicate] at h1
          have h2 := HPL.out
          have h3 := HM.out.1
          have h4 := HA.out.1
          have h5 : (putH F1 (F2.length : Int)).length = 512 := by rw [← h3]; exact h2
          have h6 : padN F2.length = p := by rw [← h3, ← hpd]
          dsimp only at h1
          omega) HN9.out
        have HQW := Lib.hid (And.intro hq2 hqw)
        clear hq2 hqw
        rw [padN_round, ← hpd, ← hR] at R1
        obtain ⟨H, hH⟩ : ∃ H, putH F1 (m : Int) = H := ⟨_, rfl⟩
        rw [hH] at HPL HX5
        obtain ⟨A, hAd⟩ : ∃ A, bodyB (l.take j) = A := ⟨_, rfl⟩
        obtain ⟨A1, hA1⟩ : ∃ A1, A ++ H = A1 := ⟨_, rfl⟩
        rw [hAd] at HR5
        have lenA : A.length = a := by rw [← hAd]; exact HA.out.1
        have lenA1 : A1.length = a5 := by rw [← hA1, List.length_append, lenA, HPL.out, ha5]
        obtain ⟨xo5, xc5, rfl⟩ := text_len HX5.out 512 HPL.out
        obtain ⟨ad5, rfl, hsrc5⟩ := text_src HX5.out (by rw [byteL_len, HPL.out]; decide)
        have HSP1 := Lib.hid (show splice (byteL (A ++ zeros r)) a (byteL H) = byteL (A1 ++ zeros r5) by
          rw [← lenA, splice_zeros, hA1, HPL.out, hr5])
        have HSP2 := Lib.hid (show splice (byteL (A1 ++ zeros r5)) a5 (byteL F2) = byteL ((A1 ++ F2) ++ zeros (p + r6)) by
          rw [← lenA1, splice_zeros, ← HM.out.1, hzr])
        have HC1 := Lib.hid (And.intro (show (byteL H).length = 512 by rw [byteL_len, HPL.out]) (And.intro hsrc5 (show a + (byteL H).length ≤ (byteL (A ++ zeros r)).length by
          rw [byteL_len, byteL_len, HPL.out, List.length_append, zeros_len, lenA]; omega)))
        have HC2 := Lib.hid (And.intro (show (byteL F2).length = Nat.min m r5 by rw [byteL_len, hmin2, HM.out.1]) (show a5 + (byteL F2).length ≤ (byteL (A1 ++ zeros r5)).length by
          rw [byteL_len, byteL_len, ← HM.out.1, List.length_append, zeros_len, lenA1]; omega))
        have HNE := Lib.hid (show wr.heap.size ≠ g by have := (Array.getElem?_eq_some_iff.1 HROW.out).1; omega)
        have HNEXT := Lib.hid (And.intro ha6 (And.intro har6 (And.intro hAd (And.intro hA1 (And.intro hpd hq)))))
        have HMIN := Lib.hid hmin1.symm
        have hbody : bodyB (l.take (j + 1)) = (A1 ++ F2) ++ zerosL p := by
          have h := HBN.out
          dsimp only at h
          rw [← HM.out.1, hH, hAd, hA1, ← hpd] at h
          exact h
        have HEQ := Lib.hid (show byteL ((A1 ++ F2) ++ zeros (p + r6)) = byteL (bodyB (l.take (j + 1)) ++ zeros r6) by
          rw [hbody, List.append_assoc (A1 ++ F2), zerosL, zeros, zeros, List.replicate_append_replicate])
        have HLEN := Lib.hid (show (bodyB (l.take (j + 1))).length = a6 by
          rw [hbody, List.length_append, List.length_append, lenA1, zerosL, List.length_replicate, ← HM.out.1]; omega)
        have HJ1 := Lib.hid (show j + 1 ≤ n from HJ.out)
        have s1 : ∀ w, (Instr.sliceAt 25 (.slice (some ⟨g, a, none⟩) r r) (some (.int .i64 512)) none none).run Tryd.prog w = .ok (.slice (some ⟨g, a5, none⟩) r5 r5) w := fun w => by
          have h := cut_from (P := Tryd.prog) Tryd.underlying25 (e := 5) (by kernel_rfl) ⟨g, a, none⟩ r r 512 (by omega) (by omega) w
          rw [Addr.add_lit, ← ha5, ← hr5] at h
          exact h
        have s2 : ∀ w, (Instr.sliceAt 25 (.slice (some ⟨g, a, none⟩) r r) (some (.int .i64 (q : Int))) none none).run Tryd.prog w = .ok (.slice (some ⟨g, a6, none⟩) r6 r6) w := fun w => by
          have h := cut_from (P := Tryd.prog) Tryd.underlying25 (e := 5) (by kernel_rfl) ⟨g, a, none⟩ r r q (by omega) (by omega) w
          rw [Addr.add_lit, ← ha6, ← hr6] at h
          exact h
        clear hR ha5 hr5 hq ha6 hr6 h512 hqr hmr har6 hzr hmin1 hmin2 hroom hH hAd hA1 lenA lenA1 hsrc5 hpd hbody
        go_upto_region 13 with (first
          | (refine copy_in rfl (.tmp 45) (.tmp 46) 25 25 rfl 5 Tryd.underlying25 (by kernel_rfl) g a r r ad5 512 xc5 rfl rfl (byteL (A ++ zeros r)) 5 HR5.out (byteL H) 512 HC1.out.1 HMIN.out HC1.out.2.1 HC1.out.2.2 (byteL_one H) ?_; intro w7 hrow7 hs7; rw [HSP1.out] at hrow7; have HR7 := Lib.hid hrow7; have HS7 := Lib.hid hs7; clear hrow7 hs7))
        have HK7 := Lib.hid (solo_under HK5.out HS7.out HGB.out)
        have e7 := (cell_same (HS7.out.block wr.heap.size HNE.out) 1).trans d7
        have HFT7 := Lib.hid (text_keep HFT0.out (below_next HB1.out HK7.out))
        clear d2 d7
        go_wp2
        go_still_tail 4, (by kernel_rfl)
        change wpList _ _ _ _ _ w7.drew
        replace HK7 := Lib.hid (below_draws HK7.out 1)
        replace HFT7 := Lib.hid (text_keep HFT7.out (below_draws (Below.refl w7.heap.size w7) 1))
        replace HR7 : Hid (w7.drew.heap[g]? = _) := Lib.hid HR7.out
        change Hid (Below _ _ w7.drew) at HK7
        change Hid (HasText w7.drew _ _) at HFT7
        clear e7 HS7
        generalize w7.drew = w8 at *
        go_upto_region 14 with (first
          | (refine wpList_copy_splice rfl (.tmp 49) (.tmp 51) 25 25 rfl 5 Tryd.underlying25 (by kernel_rfl) (some ⟨g, a5, none⟩) ao' r5 r5 m cu rfl rfl g a5 (byteL (A1 ++ zeros r5)) 5 HR7.out (byteL F2) HC2.out.1 (fun h0 => ⟨rfl, text_src HFT7.out h0⟩) HC2.out.2 (byteL_one F2) w1.heap.size w1 HK7.out HGB.out ?_; intro w9 hrow9 hb9; replace hrow9 := hrow9.out; rw [HSP2.out] at hrow9; have HR9 := Lib.hid hrow9; have HB9 := Lib.hid hb9; clear hrow9 hb9))
        obtain ⟨sd9, sc9, e, e9⟩ := ints_at (ints_below HX.out HB9.out) n j HLN.out (m : Int) HZJ.out
        cases e
        rw [Addr.add_lit, Nat.zero_add] at e9
        obtain ⟨hq2, hqw⟩ := HQW.out
        go_wp2_with (first | (go_at_call 22; refine (R1.out _).mono ?_; rintro e w10 ⟨rfl, hb10⟩; have HB10 := Lib.hid (HB9.out.trans (hb10.mono HB9.out.size)); have HR10 := Lib.hid ((hb10.block g (Array.getElem?_eq_some_iff.1 HR9.out).1).trans HR9.out); clear hb10))
        go_roundw
        case rel =>
          clear hq2 hqw
          exact ⟨j + 1, a6, r6, HJ1.out, by go_num, HNX.out, HLEN.out, HNEXT.out.2.1, rfl, by rw [byteRow_list, ← HEQ.out]; exact HR10.out, HB10.out⟩
        case measure => clear hq2 hqw; have := HJ1.out; simp [intOf]; omega
      · have HST := Lib.hid (show putUErr l = E by
          have h1 : putHErr F1 (F2.length : Int) = E := by rw [← HM.out.1]; exact HE.out
          have h2 := err_stop HFF.out HFE.out (by show putHErr F1 (F2.length : Int) ≠ 0; rw [h1]; exact hE0)
          rw [HU.out, h2, if_neg (by show ¬ putHErr F1 (F2.length : Int) = 0; rw [h1]; exact hE0)]
          exact h1)
        have HSE := Lib.hid (show putU l = [] by rw [putU, if_neg (by rw [HST.out]; exact hE0)])
        have HBE := Lib.hid (below_next HB1.out HK5.out)
        have tE : (E != 0) = true := bne_iff_ne.2 hE0
        clear hE0
        go_wp2
        go_ret2
        exact ⟨_, by rw [HST.out]; rfl, by rw [HSE.out]; exact own_none _ _, HBE.out⟩
    · obtain rfl : j = n := by omega
      have HTA := Lib.hid (show l.take j = l from List.take_of_length_le (by rw [← HN.out]; exact Nat.le_refl _))
      have HFA := Lib.hid (show firstErr l = 0 by have := HFE.out; rwa [HTA.out] at this)
      have hall := room_all HFA.out HNN.out
      have HR0 := Lib.hid (show wr.heap[g]? = some (.cells (byteRow (bodyB l ++ zeros 1024)) 5 (0, 0)) by
        have h := HROW.out
        rw [HTA.out, show r = 1024 by have h2 := HA.out; rw [HTA.out] at h2; omega] at h
        exact h)
      have HLEN := Lib.hid (show (bodyB l ++ zeros 1024).length = N by rw [List.length_append, zeros_len]; exact hall)
      have O1 := Lib.hid (onePath_any wr (.slice ao j cap) l (files_below HV.out HBW.out) (fun f hf => by
        rw [str_size]
        exact Nat.le_trans (put_path (firstErr_zero.1 HFA.out f hf)) (by unfold maxLen; decide)) HLL.out)
      have HGW := Lib.hid (Nat.le_trans HB1.out.size HGB.out)
      cases htw : twiceB l with
      | true =>
        have HST := Lib.hid (show putUErr l = 7 by rw [HU.out, if_pos HFA.out, htw]; rfl)
        have HSE := Lib.hid (show putU l = [] by rw [putU, if_neg (by rw [HST.out]; decide)])
        rw [htw] at O1
        clear hrow hb hfe ha har hjn hall htw
        go_wp2_with (first | (go_at_call 23; refine O1.out.mono ?_; rintro e w5 ⟨rfl, hb5⟩; have HB5 := Lib.hid (below_next HBW.out hb5); clear hb5))
        go_ret2
        exact ⟨_, by rw [HST.out]; rfl, by rw [HSE.out]; exact own_none _ _, HB5.out⟩
      | false =>
        have HST := Lib.hid (show putUErr l = 0 by rw [HU.out, if_pos HFA.out, htw]; rfl)
        have HSE := Lib.hid (show putU l = bodyB l ++ zeros 1024 by rw [putU, if_pos HST.out])
        rw [htw] at O1
        clear hrow hb hfe ha har hjn hall htw
        go_wp2_with (first | (go_at_call 23; refine O1.out.mono ?_; rintro e w5 ⟨rfl, hb5⟩; have HB5 := Lib.hid (below_next HBW.out hb5); have HR5 := Lib.hid ((hb5.block g (Array.getElem?_eq_some_iff.1 HR0.out).1).trans HR0.out); clear hb5))
        go_ret2
        exact ⟨_, by rw [HST.out]; rfl, by rw [HSE.out]; exact row_own HR5.out HLEN.out HGW.out, HB5.out⟩
end Go.Proofs.YtocpplnnnflekaaDoor
namespace Go.Proofs.YtocpplnnnflekaaDoor
/-- As Q; by a goto to a label: what holds there. -/
def jumps (J : Nat → Act → World → Prop) (Q : Exit → Act → World → Prop) : Exit → Act → World → Prop
  | .goto l, a, w => J l a w
  | e, a, w => Q e a w
theorem wp_labels {P : Program} {a : Act} {w : World} {Q : Exit → Act → World → Prop} {c : Code} (J : Nat → Act → World → Prop) (μ : Nat → Act → World → Nat)
    (first : c.wp P (jumps J Q) a w)
    (pass : ∀ l a w, J l a w → ∃ rest, findLabel c l = some rest ∧ rest.wp P (jumps (fun l' a' w' => J l' a' w' ∧ μ l' a' w' < μ l a w) Q) a w) : (Code.scope c).wp P Q a w := by
  intro b k cs
  have key : ∀ n l a w, μ l a w = n → J l a w → ∃ rest, findLabel c l = some rest ∧ ∃ e a' w', Q e a' w' ∧ Arrives P (lone (b.at a (.code rest :: .inScope c :: k)) cs w) b k cs e a' w' := by
    intro n
    induction n using Nat.strongRecOn with
    | _ n ih =>
      intro l a w hn hJ
      obtain ⟨rest, hf, hp⟩ := pass l a w hJ
      refine ⟨rest, hf, ?_⟩
      obtain ⟨e, a₁, w₁, hq, harr⟩ := hp b (.inScope c :: k) cs
      cases e with
      | normal => exact ⟨.normal, a₁, w₁, hq, Steps.trans harr (.one step_inScope)⟩
      | exit id => exact ⟨.exit id, a₁, w₁, hq, fun k' hk => harr k' (by simp [exitTo, hk])⟩
      | goto l' =>
        obtain ⟨hJ', hlt⟩ := hq
        obtain ⟨rest', hf', e₂, a₂, w₂, hq₂, harr₂⟩ := ih _ (by omega) l' a₁ w₁ rfl hJ'
        have hg : gotoIn l' (.inScope c :: k) = some (.code rest' :: .inScope c :: k) := by simp [gotoIn, hf']
        exact ⟨e₂, a₂, w₂, hq₂, .of_steps (harr _ hg) harr₂⟩
      | ret => exact ⟨_, a₁, w₁, hq, harr⟩
      | panic ch => exact ⟨_, a₁, w₁, hq, harr⟩
      | outgrown => exact ⟨_, a₁, w₁, hq, harr⟩
  obtain ⟨e, a₁, w₁, hq, harr⟩ := first b (.inScope c :: k) cs
  cases e with
  | normal => exact ⟨.normal, a₁, w₁, hq, .head step_scope (Steps.trans harr (.one step_inScope))⟩
  | exit id => exact ⟨.exit id, a₁, w₁, hq, fun k' hk => .head step_scope (harr k' (by simp [exitTo, hk]))⟩
  | goto l' =>
    obtain ⟨rest', hf', e₂, a₂, w₂, hq₂, harr₂⟩ := key _ l' a₁ w₁ rfl hq
    have hg : gotoIn l' (.inScope c :: k) = some (.code rest' :: .inScope c :: k) := by simp [gotoIn, hf']
    exact ⟨e₂, a₂, w₂, hq₂, .of_steps (.head step_scope (harr _ hg)) harr₂⟩
  | ret => exact ⟨_, a₁, w₁, hq, .of_steps (.one step_scope) harr⟩
  | panic ch => exact ⟨_, a₁, w₁, hq, .of_steps (.one step_scope) harr⟩
  | outgrown => exact ⟨_, a₁, w₁, hq, .of_steps (.one step_scope) harr⟩
/-- The same, where the first pass comes to a label. -/
theorem wp_labels_from {P : Program} {a : Act} {w : World} {Q : Exit → Act → World → Prop} {c : Code} (J : Nat → Act → World → Prop) (μ : Nat → Act → World → Nat)
    (pass : ∀ l a w, J l a w → ∃ rest, findLabel c l = some (Code.skip.seq rest) ∧ rest.wp P (jumps (fun l' a' w' => J l' a' w' ∧ μ l' a' w' < μ l a w) Q) a w)
    (first : (∀ l a w, J l a w → ∃ rest, findLabel c l = some (Code.skip.seq rest) ∧ rest.wp P (jumps J Q) a w) → c.wp P (jumps J Q) a w) : (Code.scope c).wp P Q a w := by
  refine wp_labels J μ (first fun l a w h => ?_) fun l a w h => ?_
  · obtain ⟨rest, hf, hp⟩ := pass l a w h
    refine ⟨rest, hf, wp_mono hp fun e a' w' hq => ?_⟩
    cases e with
    | goto l' => exact hq.1
    | _ => exact hq
  · obtain ⟨rest, hf, hp⟩ := pass l a w h
    exact ⟨_, hf, wp_seq (wp_skip hp)⟩
end Go.Proofs.YtocpplnnnflekaaDoor
namespace Go.Proofs.YtocpplnnnflekaaDoor
open Go.RowKit
/-- The files so far: a slice of the call's own, of paths and of copies of the call's own. -/
def Keeps (w w' : World) (vl : Value) (us : List (F8 × Value)) : Prop :=
  w'.ownsRow w.heap.size 33 2 vl us.length (filesC us) ∧ ∀ x ∈ us, w'.ownsRow w.heap.size 5 1 x.2 (x.1.2.map w8).length (bytesL (x.1.2.map w8)) ∧ x.1.1.length ≤ 256
theorem keeps_none (w : World) : Keeps w w (.slice none 0 0) [] := ⟨⟨rfl, .inl ⟨rfl, rfl⟩⟩, fun _ h => by cases h⟩
theorem keeps_below {w w1 w2 : World} {vl : Value} {us : List (F8 × Value)} (h : Keeps w w1 vl us) (hb : Below w1.heap.size w1 w2) : Keeps w w2 vl us :=
  ⟨own_below h.1 hb, fun x hx => ⟨own_below (h.2 x hx).1 hb, (h.2 x hx).2⟩⟩
theorem keeps_files {w w1 : World} {vl : Value} {us : List (F8 × Value)} (h : Keeps w w1 vl us) : HasFiles w1 vl (us.map (·.1)) :=
  files_of_own h.1 fun x hx => has_of_own (h.2 x hx).1
theorem own_base {w : World} {b b' : Nat} {e : TypeId} {size : Nat} {v : Value} {n : Nat} {xs : List Value} (h : w.ownsRow b' e size v n xs) (hb : b ≤ b') : w.ownsRow b e size v n xs := by
  refine ⟨h.1, ?_⟩
  rcases h.2 with h0 | ⟨g, cap, cur, e1, e2, rest⟩
  · exact .inl h0
  · exact .inr ⟨g, cap, cur, e1, Nat.le_trans hb e2, rest⟩
/-- Rows of unlike elements are unlike blocks. -/
theorem own_apart {w : World} {b b' : Nat} {e e' : TypeId} {s s' : Nat} {v v' : Value} {n n' : Nat} {xs xs' : List Value} (h : w.ownsRow b e s v n xs) (h' : w.ownsRow b' e' s' v' n' xs') (hne : e ≠ e') : v.ownBlock = none ∨ v.ownBlock ≠ v'.ownBlock := by
  rcases h.2 with ⟨rfl, -⟩ | ⟨g, cap, cur, rfl, -, hg, -⟩
  · exact .inl rfl
  · refine .inr fun e => ?_
    rcases h'.2 with ⟨rfl, -⟩ | ⟨g', cap', cur', rfl, -, hg', -⟩
    · cases e
    · have e2 : g = g' := by simpa [Value.ownBlock] using e
      subst e2
      rw [hg] at hg'
      cases hg'
      exact hne rfl
theorem unlike_types : 5 ≠ 33 := by decide
/-- Behind an append: the files and one more. -/
theorem keeps_more {w w1 w2 : World} {vl v2 : Value} {us : List (F8 × Value)} {x : F8 × Value} (h : Keeps w w1 vl us) (hx : w1.ownsRow w.heap.size 5 1 x.2 (x.1.2.map w8).length (bytesL (x.1.2.map w8))) (hp : x.1.1.length ≤ 256)
    (ho : w2.ownsRow w.heap.size 33 2 v2 (us ++ [x]).length (filesC (us ++ [x]))) (hg : w1.grownBy w2 vl.ownBlock) : Keeps w w2 v2 (us ++ [x]) := by
  refine ⟨ho, fun y hy => ?_⟩
  rcases List.mem_append.1 hy with hy | hy
  · exact ⟨(h.2 y hy).1.kept hg (own_apart (h.2 y hy).1 h.1 unlike_types), (h.2 y hy).2⟩
  · rw [List.mem_singleton] at hy; subst hy
    exact ⟨hx.kept hg (own_apart hx h.1 unlike_types), hp⟩
theorem clone_any (w : World) (ad : Addr) (n c : Nat) (l : List UInt8) (hl : l.length = n) (hn : n ≤ 140737488355328) (h : HasText w (.slice (some ad) n c) l) :
    Calls Tryd.prog 28 #[.slice (some ad) n c] w fun e w' => ∃ bo c', e = .returned (.slice bo n c') ∧ w'.ownsRow w.heap.size 5 1 (.slice bo n c') (l.map w8).length (bytesL (l.map w8)) ∧ Below w.heap.size w w' := by
  obtain ⟨ao, cap, e, hnil, hc⟩ := h
  cases e
  have hb : bytesL (l.map w8) = (l.map fun b => (b.toNat : Int)).map (Value.int .u8) := by rw [bytesL_map, List.map_map]; rfl
  refine (Tryd.bytes_Clone_at ad _ c (l.map fun b => (b.toNat : Int)) w (by rw [List.length_map, List.length_map]) (by rw [List.length_map, hl]; exact hn) (fun i hi => ?_)).mono fun e w' h => ?_
  · rw [List.length_map] at hi
    refine (hc ad rfl).2 i _ ?_
    rw [hb, List.getElem?_map, List.getElem?_eq_getElem (by rw [List.length_map]; exact hi), List.getD_eq_getElem?_getD, List.getElem?_eq_getElem (by rw [List.length_map]; exact hi)]
    rfl
  · obtain ⟨v', he, ho, -, hbl⟩ := h
    rw [← hb] at ho
    obtain ⟨bo, c', rfl⟩ := own_slice ho
    rw [List.length_map, hl] at he ho
    exact ⟨bo, c', he, by rw [List.length_map, hl]; exact ho, hbl⟩
/-- A slice from a place on. -/
theorem cut_text {P : Program} {t e : TypeId} (ht : P.underlying t = some (.slice e)) (he : (P.info? e).map (·.size) = some 1) (ad : Addr) (len cap lo hi : Nat) (h1 : lo ≤ hi) (h2 : hi ≤ len) (h3 : len ≤ cap) :
    ∃ ad', (∀ w, (Instr.sliceAt t (.slice (some ad) len cap) (some (.int .i64 (lo : Int))) (some (.int .i64 (hi : Int))) none).run P w = .ok (.slice (some ad') (hi - lo) (cap - lo)) w) ∧
      (∀ w, (Instr.sliceAt t (.slice (some ad) len cap) (some (.int .i64 (lo : Int))) none none).run P w = .ok (.slice (some ad') (len - lo) (cap - lo)) w) ∧
      ∀ w l, HasText w (.slice (some ad) len cap) l → HasText w (.slice (some ad') (hi - lo) (cap - lo)) ((l.take hi).drop lo) ∧ HasText w (.slice (some ad') (len - lo) (cap - lo)) (l.drop lo) := by
  have hel : P.elem t = e := by simp [Program.elem, ht]
  obtain ⟨inf, hinf, hs⟩ : ∃ inf, P.info? e = some inf ∧ inf.size = 1 := by
    cases h : P.info? e with
    | none => simp [h] at he
    | some i => exact ⟨i, rfl, by simpa [h] using he⟩
  have hce : P.cellsOf e = 1 := by simp [Program.cellsOf, hinf, hs]
  have hsl : P.underlying t = some (.slice (P.elem t)) := by rw [hel]; exact ht
  refine ⟨if cap = lo then ad else ad.add lo, fun w => ?_, fun w => ?_, fun w l h => ?_⟩
  · rw [run_sliceAt_slice _ _ _ _ _ _ hsl, run_slice_lh _ _ _ _ _ hsl _ _ _ _ (by omega) (by omega) (by omega), hel, run_sizeOf w hinf, hce]
    by_cases h : cap = lo <;> simp [sliced, h]
  · rw [run_sliceAt_slice _ _ _ _ _ _ hsl, run_slice_l _ _ _ _ _ hsl _ _ (by omega) (by omega), hel, run_sizeOf w hinf, hce]
    by_cases h : cap = lo <;> simp [sliced, h]
  · have hl := (text_cap h).1
    by_cases h0 : cap = lo
    · rw [if_pos h0]
      have e1 : hi = lo := by omega
      have e2 : len = lo := by omega
      subst e1
      have z : ∀ c, HasText w (.slice (some ad) 0 c) [] := fun c => ⟨some ad, c, rfl, (fun h => by cases h), fun ad' _ => ⟨Nat.zero_le _, fun j u hu => by cases hu⟩⟩
      rw [List.drop_eq_nil_of_le (by rw [List.length_take]; omega), List.drop_eq_nil_of_le (by omega), Nat.sub_self, e2, Nat.sub_self]
      exact ⟨z _, z _⟩
    · rw [if_neg h0]
      have a := text_mid h lo hi h1 (by omega)
      have b := text_mid h lo len (by omega) (by omega)
      rw [List.take_of_length_le (show l.length ≤ len by omega)] at b
      exact ⟨a, b⟩
def sliceLen : Value → Nat
  | .slice _ n _ => n
  | _ => 0
/-- What every pass from a label lowers. -/
def getMeasure (l : Nat) (a : Act) (_ : World) : Nat := if l = 1 then sliceLen (a.tmps.getD 0 undef) + 2 else if l = 0 then 1 else 0
/-- What holds at the labels: 2, no archive; 0, the end; 1, the next header. -/
def AtGet (w : World) (b : List UInt8) (lb : Nat) (a' : Act) (w' : World) : Prop :=
  (lb = 2 ∧ (∃ u0' u1' u2' u3' u4' u5' u6' u7' u8' u9' u10' u11' u12' u13' u14' u15' u16' u17' u18' u19' u20' u21' u22' u23' u24' u25' u26' u27' u28' u29' u30' u31' u32' u33' u34' u35' u36' u37' u38' u39' u40' u41' u42' u43' u44' u45' u46' u47' u48' u49' u50' u51' u52' u53' u54' u55' u56' u57' u58' u59' u60' u61' u62' u63' u64' u65' u66' u67' u68' : Value, a' = { tmps := #[u0', u1', u2', u3', u4', u5', u6', u7', u8', u9', u10', u11', u12', u13', u14', u15', u16', u17', u18', u19', u20', u21', u22', u23', u24', u25', u26', u27', u28', u29', u30', u31', u32', u33', u34', u35', u36', u37', u38', u39', u40', u41', u42', u43', u44', u45', u46', u47', u48', u49', u50', u51', u52', u53', u54', u55', u56', u57', u58', u59', u60', u61', u62', u63', u64', u65', u66', u67', u68'], defers := [] }) ∧ getUErr b = 2 ∧ getU b = [] ∧ Below w.heap.size w w') ∨
  (lb = 0 ∧ ∃ vl us, (∃ u0' u1' u2' u3' u5' u6' u7' u8' u9' u10' u11' u12' u13' u14' u15' u16' u17' u18' u19' u20' u21' u22' u23' u24' u25' u26' u27' u28' u29' u30' u31' u32' u33' u34' u35' u36' u37' u38' u39' u40' u41' u42' u43' u44' u45' u46' u47' u48' u49' u50' u51' u52' u53' u54' u55' u56' u57' u58' u59' u60' u61' u62' u63' u64' u65' u66' u67' u68' : Value, a' = { tmps := #[u0', u1', u2', u3', vl, u5', u6', u7', u8', u9', u10', u11', u12', u13', u14', u15', u16', u17', u18', u19', u20', u21', u22', u23', u24', u25', u26', u27', u28', u29', u30', u31', u32', u33', u34', u35', u36', u37', u38', u39', u40', u41', u42', u43', u44', u45', u46', u47', u48', u49', u50', u51', u52', u53', u54', u55', u56', u57', u58', u59', u60', u61', u62', u63', u64', u65', u66', u67', u68'], defers := [] }) ∧ Keeps w w' vl us ∧ Got b (us.map (·.1)) (zeros 1024) ∧ Below w.heap.size w w') ∨
  (lb = 1 ∧ ∃ vl us ao m c rem, ∃ t : Nat, (∃ u1' u2' u3' u5' u6' u8' u9' u10' u11' u12' u13' u14' u15' u16' u17' u18' u19' u20' u21' u22' u23' u24' u25' u26' u27' u28' u29' u30' u31' u32' u33' u34' u35' u36' u37' u38' u39' u40' u41' u42' u43' u44' u45' u46' u47' u48' u49' u50' u51' u52' u53' u54' u55' u56' u57' u58' u59' u60' u61' u62' u63' u64' u65' u66' u67' u68' : Value, a' = { tmps := #[(.slice ao m c), u1', u2', u3', vl, u5', u6', (.int .i64 (t : Nat)), u8', u9', u10', u11', u12', u13', u14', u15', u16', u17', u18', u19', u20', u21', u22', u23', u24', u25', u26', u27', u28', u29', u30', u31', u32', u33', u34', u35', u36', u37', u38', u39', u40', u41', u42', u43', u44', u45', u46', u47', u48', u49', u50', u51', u52', u53', u54', u55', u56', u57', u58', u59', u60', u61', u62', u63', u64', u65', u66', u67', u68'], defers := [] }) ∧ t = totalB (us.map (·.1)) ∧ Keeps w w' vl us ∧ Got b (us.map (·.1)) rem ∧ rem.length = m ∧ HasText w (.slice ao m c) rem ∧ Below w.heap.size w w')
theorem get8_nums (k t m s R : Nat) (h : k * 512 + t + m ≤ 70000) (h1 : R ≤ m) (h2 : s ≤ R) : wrap64 ((t : Int) + (s : Int)) = ((t + s : Nat) : Int) ∧ wrap64 ((k : Int) + 1) = ((k + 1 : Nat) : Int) ∧ ((k + 1 : Nat) : Int) ≤ 400 ∧ ((t + s : Nat) : Int) ≤ 4194304 ∧ k + 1 ≤ 1000000 := by
  refine ⟨?_, ?_, by omega, by omega, by omega⟩ <;> rw [wrap64] <;> omega
theorem get8_ends (m5 m8 m R : Nat) (h : m8 = m5 - R) (h2 : m5 = m - 512) (h3 : 512 ≤ m) : m8 < m := by omega
theorem get8_small (s R m5 m : Nat) (h : s ≤ R) (h1 : R ≤ m5) (h2 : m5 = m - 512) (h3 : m ≤ 70000) : s ≤ 140737488355328 := by omega
theorem get8_total (us : List (F8 × Value)) (p d : List UInt8) (t s t2 : Nat) (h : t = totalB (us.map (·.1))) (h2 : t2 = t + s) (h3 : d.length = s) : t2 = totalB (us.map (·.1) ++ [(p, d)]) := by
  rw [totalB_append, ← h, h2, ← h3]; simp [totalB]
theorem text_at_all {w : World} {ao : Option Addr} {n c : Nat} {l : List UInt8} (h : HasText w (.slice ao n c) l) (k : Nat) (hk : k = min 512 n) : HasText w (.slice ao k c) (l.take 512) := by
  have hl := (text_cap h).1
  have h2 := text_take h k (by omega)
  rwa [show l.take k = l.take 512 by
    rw [hk, hl]
    rcases Nat.le_total 512 l.length with h3 | h3
    · rw [Nat.min_eq_left h3]
    · rw [Nat.min_eq_right h3, List.take_length, List.take_of_length_le h3]] at h2
set_option maxRecDepth 100000 in
set_option maxHeartbeats 16000000 in
theorem get8_any (w : World) (v : Value) (b : List UInt8) (hv : HasText w v b) (hl : b.length ≤ 70000) :
    Calls Tryd.prog 16 #[v] w fun e w' => ∃ x, e = .returned (.tuple #[x, .int .i64 (getUErr b)]) ∧ HasFiles w' x (getU b) ∧ Below w.heap.size w w' := by
  obtain ⟨i0, hi, hz⟩ : ∃ i0, Tryd.prog.info? 33 = some i0 ∧ (i0.zero.map (·.cells.size), i0.size, i0.bytes) = (some 2, 2, 40) := by
    cases h : Tryd.prog.info? 33 with
    | none => have := info_file; rw [h] at this; cases this
    | some i => exact ⟨i, rfl, by have := info_file; rw [h] at this; simpa using this⟩
  obtain ⟨n, hn⟩ : ∃ n, n = b.length := ⟨_, rfl⟩
  obtain ⟨ao, cap, rfl⟩ := text_len hv n hn.symm
  have HV := Lib.hid hv
  have HN := Lib.hid hn
  have HL := Lib.hid hl
  clear hn hv hl
  go_enter Tryd.func16, Tryd.ntmps16
  go_wp2
  refine wp_labels_from (AtGet w b) getMeasure ?pass ?first
  case first =>
    intro hpass
    go_wp2
    rename_i hKK
    obtain ⟨rest, hf, hw⟩ := hpass 1 _ w (.inr (.inr ⟨rfl, .slice none 0 0, [], ao, n, cap, b, 0, ⟨_, _, _, _, _, _, _, _, _, _, _, _, _, _, _, _, _, _, _, _, _, _, _, _, _, _, _, _, _, _, _, _, _, _, _, _, _, _, _, _, _, _, _, _, _, _, _, _, _, _, _, _, _, _, _, _, _, _, _, _, _, _, _, _, _, _, rfl⟩, rfl, keeps_none w, got_start b, HN.out.symm, HV.out, Below.refl _ _⟩))
    cases hf
    exact wp_label (hKK _ _ hw)
  case pass =>
    clear HV
    rintro lb a' wr (⟨rfl, ⟨u0, u1, u2, u3, u4, u5, u6, u7, u8, u9, u10, u11, u12, u13, u14, u15, u16, u17, u18, u19, u20, u21, u22, u23, u24, u25, u26, u27, u28, u29, u30, u31, u32, u33, u34, u35, u36, u37, u38, u39, u40, u41, u42, u43, u44, u45, u46, u47, u48, u49, u50, u51, u52, u53, u54, u55, u56, u57, u58, u59, u60, u61, u62, u63, u64, u65, u66, u67, u68, rfl⟩, he, hg, hb⟩ | ⟨rfl, vl, us, ⟨u0, u1, u2, u3, u5, u6, u7, u8, u9, u10, u11, u12, u13, u14, u15, u16, u17, u18, u19, u20, u21, u22, u23, u24, u25, u26, u27, u28, u29, u30, u31, u32, u33, u34, u35, u36, u37, u38, u39, u40, u41, u42, u43, u44, u45, u46, u47, u48, u49, u50, u51, u52, u53, u54, u55, u56, u57, u58, u59, u60, u61, u62, u63, u64, u65, u66, u67, u68, rfl⟩, hk, hg, hb⟩ | ⟨rfl, vl, us, ao, m, c, rem, t, ⟨u1, u2, u3, u5, u6, u8, u9, u10, u11, u12, u13, u14, u15, u16, u17, u18, u19, u20, u21, u22, u23, u24, u25, u26, u27, u28, u29, u30, u31, u32, u33, u34, u35, u36, u37, u38, u39, u40, u41, u42, u43, u44, u45, u46, u47, u48, u49, u50, u51, u52, u53, u54, u55, u56, u57, u58, u59, u60, u61, u62, u63, u64, u65, u66, u67, u68, rfl⟩, htt, hk, hg, hm, ht, hb⟩)
    · refine ⟨_, rfl, ?_⟩
      go_wp2
      simp only [jumps]
      go_ret2
      exact ⟨_, by rw [he]; rfl, by rw [hg]; exact files_nil _, hb⟩
    · refine ⟨_, rfl, ?_⟩
      have hle := got_len hg
      rw [zeros_len] at hle
      have hlb := HL.out
      have HF := Lib.hid (keeps_files hk)
      have hp : ∀ f ∈ us.map (·.1), (str f.1).size ≤ maxLen := fun f hf => by
        obtain ⟨x, hx, rfl⟩ := List.mem_map.1 hf
        rw [str_size]
        exact Nat.le_trans (hk.2 x hx).2 (by unfold maxLen; decide)
      have O1 := Lib.hid (onePath_any wr vl (us.map (·.1)) HF.out hp (by omega))
      have HB := Lib.hid hb
      cases htw : twiceB (us.map (·.1)) with
      | true =>
        have HG := Lib.hid (got_twice hg htw)
        rw [htw] at O1
        clear hk hg hle hlb hp htw hb
        go_wp2_with (first | (go_at_call 23; refine O1.out.mono ?_; rintro e w5 ⟨rfl, hb5⟩; have HB5 := Lib.hid (below_next HB.out hb5); clear hb5))
        go_step3
        go_wp2
        simp only [jumps]
        go_ret2
        exact ⟨_, by rw [HG.out.1]; rfl, by rw [HG.out.2]; exact files_nil _, HB5.out⟩
      | false =>
        have HG := Lib.hid (got_end hg rfl (by omega) (by omega) htw)
        rw [htw] at O1
        clear hk hg hle hlb hp htw hb
        go_wp2_with (first | (go_at_call 23; refine O1.out.mono ?_; rintro e w5 ⟨rfl, hb5⟩; have HB5 := Lib.hid (below_next HB.out hb5); have HF5 := Lib.hid (files_below HF.out hb5); clear hb5))
        simp only [jumps]
        go_ret2
        exact ⟨_, by rw [HG.out.1]; rfl, by rw [HG.out.2]; exact HF5.out, HB5.out⟩
    · refine ⟨_, rfl, ?_⟩
      have HM := Lib.hid hm
      have HW := Lib.hid ht
      replace ht := text_keep ht hb
      have HT := Lib.hid ht
      have HK := Lib.hid hk
      have HG := Lib.hid hg
      have HB := Lib.hid hb
      have HTT := Lib.hid htt
      have HLE := Lib.hid (got_len hg)
      have hlb := HLE.out
      have hml : rem.length < 4611686018427387904 := by have := HL.out; omega
      by_cases hz0 : rem.length = 1024 ∧ rem.all (· == 0) = true
      · have HGZ := Lib.hid (show Got b (us.map (·.1)) (zeros 1024) by have h := hg; rw [all_zeros hz0.1 hz0.2] at h; exact h)
        obtain rfl : m = 1024 := by omega
        have B1 := Lib.hid (blank_any rem hml (.slice ao 1024 c) wr ht)
        rw [hz0.2] at B1
        clear hm ht hk hg hb htt hlb hml hz0
        go_wp2_with (first | (go_at_call 26; refine B1.out.mono ?_; rintro e w2 ⟨rfl, hb2⟩; have HB2 := Lib.hid hb2; clear hb2))
        go_step3
        exact ⟨.inr (.inl ⟨rfl, vl, us, ⟨_, _, _, _, _, _, _, _, _, _, _, _, _, _, _, _, _, _, _, _, _, _, _, _, _, _, _, _, _, _, _, _, _, _, _, _, _, _, _, _, _, _, _, _, _, _, _, _, _, _, _, _, _, _, _, _, _, _, _, _, _, _, _, _, _, _, _, _, rfl⟩, keeps_below HK.out HB2.out, HGZ.out, below_next HB.out HB2.out⟩), by simp [getMeasure]⟩
      · have HZ := Lib.hid hz0
        obtain ⟨k0, hk0⟩ : ∃ k0, k0 = min 512 m := ⟨_, rfl⟩
        have hmin : min (512 : Int) (m : Int) = (k0 : Int) := by omega
        have hkc : k0 ≤ c := by have h := text_cap ht; omega
        have hkc2 : (k0 : Int) ≤ (c : Int) := by omega
        have TK := Lib.hid (text_at_all ht k0 hk0)
        have HML := Lib.hid (show m ≤ 70000 by have := HL.out; omega)
        obtain ⟨h, hh⟩ : ∃ h, rem.take 512 = h := ⟨_, rfl⟩
        obtain ⟨r, hr⟩ : ∃ r, rem.drop 512 = r := ⟨_, rfl⟩
        rw [hh] at TK
        have HH := Lib.hid (And.intro hh hr)
        have G1 := Lib.hid (fun w hv => headerFace.get w (.slice ao k0 c) h (by rw [← hh, List.length_take]; omega) hv)
        by_cases h24 : m = 1024
        · cases hbl : rem.all (· == 0) with
          | true => exact absurd ⟨by omega, hbl⟩ hz0
          | false =>
            have B1 := Lib.hid (blank_any rem hml (.slice ao m c) wr ht)
            rw [hbl] at B1
            have d24 : ((m : Int) == 1024) = true := by rw [h24]; rfl
            have HK0 := Lib.hid hk0
            clear hm ht hk hg hb htt hlb hml hz0 h24 hbl hh hr hk0 hkc
            go_upto_region 6 with (first | (go_at_call 26; refine B1.out.mono ?_; rintro e w2 ⟨rfl, hb2⟩; have HB2 := Lib.hid hb2; clear hb2))
            clear B1 d24
            have HT2 := Lib.hid (text_keep HT.out HB2.out)
            have TK2 := Lib.hid (text_keep TK.out HB2.out)
            have HK2 := Lib.hid (keeps_below HK.out HB2.out)
            have HBB := Lib.hid (below_next HB.out HB2.out)
            clear HT TK HK HB2 HB
            obtain ⟨E, hE⟩ : ∃ E, getHErr h = E := ⟨_, rfl⟩
            obtain ⟨S, hS⟩ : ∃ S, getHSize h = S := ⟨_, rfl⟩
            obtain ⟨p, hp⟩ : ∃ p, getHPath h = p := ⟨_, rfl⟩
            rw [hE, hS, hp] at G1
            have HES := Lib.hid (And.intro hE (And.intro hS hp))
            clear hE hS hp
            go_upto_region 7 with (first | (go_at_call 27; refine (G1.out _ TK2.out).mono ?_; rintro e w3 ⟨rfl, hb3⟩; have HT3 := Lib.hid (text_keep HT2.out hb3); have HK3 := Lib.hid (keeps_below HK2.out hb3); have HB3 := Lib.hid (below_next HBB.out hb3); clear hb3))
            clear HT2 TK2 HK2 HBB G1 hmin hkc2
            by_cases hE0 : E = 0
            · subst hE0
              obtain ⟨hp256, hs0, hs1⟩ := path_le HES.out.1
              rw [HES.out.2.2] at hp256
              rw [HES.out.2.1] at hs0 hs1
              obtain ⟨s, rfl⟩ : ∃ s : Nat, S = (s : Int) := ⟨S.toNat, by omega⟩
              have hlen := getH_len HES.out.1
              rw [← HH.out.1, List.length_take, HM.out] at hlen
              have h512 : 512 ≤ m := by omega
              obtain ⟨ad, cap', e, -⟩ := text_pos HT3.out m 0 HM.out (by omega) _ rfl
              cases e
              have hcap := (text_cap HT3.out).2
              obtain ⟨ad5, -, s5, t5⟩ := cut_text (P := Tryd.prog) Tryd.underlying25 (e := 5) (by kernel_rfl) ad m c 512 512 (Nat.le_refl _) h512 hcap
              have HT5 := Lib.hid (t5 _ _ HT3.out).2
              rw [HH.out.2] at HT5
              obtain ⟨m5, hm5⟩ : ∃ m5, m5 = m - 512 := ⟨_, rfl⟩
              obtain ⟨c5, hc5⟩ : ∃ c5, c5 = c - 512 := ⟨_, rfl⟩
              rw [← hm5, ← hc5] at HT5
              have HW5 := Lib.hid (t5 _ _ HW.out).2
              rw [HH.out.2, ← hm5, ← hc5] at HW5
              have s5' : ∀ w, (Instr.sliceAt 25 (.slice (some ad) m c) (some (.int .i64 512)) none none).run Tryd.prog w = .ok (.slice (some ad5) m5 c5) w := fun w => by rw [hm5, hc5]; exact s5 w
              have hcap5 := (text_cap HT5.out).2
              have hlr : r.length = m5 := by rw [← HH.out.2, List.length_drop, HM.out, hm5]
              obtain ⟨R, hR⟩ : ∃ R, R = s + padN s := ⟨_, rfl⟩
              have R1 := Lib.hid (fun w => round7_any (s : Int) (by omega) w)
              rw [padN_round, ← hR] at R1
              have HS := Lib.hid (And.intro hp256 (And.intro hlr (And.intro hm5 hR)))
              by_cases hfit : R ≤ m5
              · have d1 : decide (m5 < R) = false := decide_eq_false (by omega)
                obtain ⟨ad6, s6, s7, t6⟩ := cut_text (P := Tryd.prog) Tryd.underlying25 (e := 5) (by kernel_rfl) ad5 m5 c5 s R (by omega) hfit hcap5
                have HT6 := Lib.hid (fun w h => (t6 w r h).1)
                have B6 := Lib.hid (fun w h => blank_any ((r.take R).drop s) (by rw [List.length_drop, List.length_take]; have := HML.out; omega) (.slice (some ad6) (R - s) (c5 - s)) w h)
                obtain ⟨R', hR'⟩ : ∃ R', R' = R - s := ⟨_, rfl⟩
                obtain ⟨c6, hc6⟩ : ∃ c6, c6 = c5 - s := ⟨_, rfl⟩
                rw [← hR', ← hc6] at s6 HT6 B6
                have HFT := Lib.hid (And.intro hfit (And.intro hcap5 (show s ≤ R by omega)))
                have HML5 := Lib.hid (show s ≤ c5 by omega)
                cases hbl : ((r.take R).drop s).all (· == 0) with
                | false =>
                  have HBAD := Lib.hid (got_cut HG.out HZ.out s (by rw [HH.out.1]; exact HES.out.2.1) (by rw [HH.out.2, ← hR, hbl]; exact fun h => Bool.false_ne_true h.2))
                  rw [hbl] at B6
                  clear hp256 hs0 hs1 hlen h512 hcap hcap5 hlr hR hfit hbl hm5 hc5 t5 s5 s7 t6 hR' hc6
                  go_wp2_with (first
                    | (go_at_call 22; refine (R1.out _).mono ?_; rintro e w4 ⟨rfl, hb4⟩; replace HT3 := Lib.hid (text_keep HT3.out hb4); replace HT5 := Lib.hid (text_keep HT5.out hb4); replace HB3 := Lib.hid (below_next HB3.out hb4); clear hb4)
                    | (go_at_call 26; refine (B6.out _ (HT6.out _ HT5.out)).mono ?_; rintro e w5 ⟨rfl, hb5⟩; have HB5 := Lib.hid (below_next HB3.out hb5); clear hb5))
                  go_step3
                  exact ⟨.inl ⟨rfl, ⟨_, _, _, _, _, _, _, _, _, _, _, _, _, _, _, _, _, _, _, _, _, _, _, _, _, _, _, _, _, _, _, _, _, _, _, _, _, _, _, _, _, _, _, _, _, _, _, _, _, _, _, _, _, _, _, _, _, _, _, _, _, _, _, _, _, _, _, _, _, rfl⟩, HBAD.out.1, HBAD.out.2, HB5.out⟩, by simp [getMeasure]⟩
                | true =>
                  obtain ⟨ad8, -, s8, t8⟩ := cut_text (P := Tryd.prog) Tryd.underlying25 (e := 5) (by kernel_rfl) ad5 m5 c5 R R (Nat.le_refl _) hfit hcap5
                  have HT8 := Lib.hid (fun w h => (t8 w r h).2)
                  obtain ⟨m8, hm8⟩ : ∃ m8, m8 = m5 - R := ⟨_, rfl⟩
                  obtain ⟨c8, hc8⟩ : ∃ c8, c8 = c5 - R := ⟨_, rfl⟩
                  rw [← hm8, ← hc8] at s8 HT8
                  obtain ⟨d, hd⟩ : ∃ d, r.take s = d := ⟨_, rfl⟩
                  have hdl : d.length = s := by rw [← hd, List.length_take]; omega
                  have HTD := Lib.hid (show ∀ w, HasText w (.slice (some ad5) m5 c5) r → HasText w (.slice (some ad5) s c5) d from fun w h => by
                    have h2 := text_take h s (by omega)
                    rwa [hd] at h2)
                  have HNX := Lib.hid (show Got b (us.map (·.1) ++ [(p, d)]) (r.drop R) by
                    have h := got_next HG.out HH.out.1 HH.out.2 HES.out.1 s HES.out.2.1 (by rw [← hR, hlr]; exact hfit) (by rw [← hR]; exact hbl)
                    rwa [HES.out.2.2, hd, ← hR] at h)
                  have hlen8 := got_len HG.out
                  rw [List.length_map, ← HTT.out] at hlen8
                  obtain ⟨ws, wl, q400, q4m, q1m⟩ := get8_nums us.length t m s R (by have := HL.out; have := HM.out; omega) (by omega) (by omega)
                  obtain ⟨t2, ht2⟩ : ∃ t2, t2 = t + s := ⟨_, rfl⟩
                  obtain ⟨L2, hL2⟩ : ∃ L2, L2 = us.length + 1 := ⟨_, rfl⟩
                  rw [← ht2] at ws q4m
                  rw [← hL2] at wl q400
                  have M1 := Lib.hid (fun w => tooMuch_any (L2 : Int) (t2 : Int) q400 q4m w)
                  have HQ1 := Lib.hid q1m
                  have HEND := Lib.hid (And.intro (show (r.drop R).length = m8 by rw [List.length_drop, hlr, hm8]) (And.intro (get8_ends m5 m8 m R hm8 hm5 h512) (get8_total us p d t s t2 HTT.out ht2 hdl)))
                  have HC := Lib.hid (And.intro hdl (And.intro (get8_small s R m5 m HFT.out.2.2 HFT.out.1 hm5 HML.out) hp256))
                  have hsc : s ≤ c5 := HML5.out
                  obtain ⟨vo, vc, rfl⟩ := own_slice HK3.out.1
                  rw [hbl] at B6
                  clear hp256 hs0 hs1 hlen h512 hcap hcap5 hlr hR hfit hbl hm5 hc5 t5 s5 s7 t6 hR' hc6 hm8 hc8 hd hdl hlen8 q400 q4m q1m ht2 hL2 t8
                  go_upto_region 10 with (first
                    | (go_at_call 22; refine (R1.out _).mono ?_; rintro e w4 ⟨rfl, hb4⟩; replace HT5 := Lib.hid (text_keep HT5.out hb4); replace HK3 := Lib.hid (keeps_below HK3.out hb4); replace HB3 := Lib.hid (below_next HB3.out hb4); clear hb4)
                    | (go_at_call 26; refine (B6.out _ (HT6.out _ HT5.out)).mono ?_; rintro e w5 ⟨rfl, hb5⟩; replace HT5 := Lib.hid (text_keep HT5.out hb5); replace HK3 := Lib.hid (keeps_below HK3.out hb5); replace HB3 := Lib.hid (below_next HB3.out hb5); clear hb5 B6 s6))
                  go_upto_region 12 with (first | (go_at_call 20; refine (M1.out _).mono ?_; rintro e w6 ⟨rfl, rfl⟩))
                  clear ws wl M1
                  go_upto_region 13 with (first
                    | (go_at_call 28; refine (clone_any _ ad5 s c5 d HC.out.1 HC.out.2.1 (HTD.out _ HT5.out)).mono ?_; rintro e w7 ⟨vo7, vc7, rfl, ho7, hb7⟩; replace HK3 := Lib.hid (keeps_below HK3.out hb7); have HO7 := Lib.hid (own_base ho7 HB3.out.size); replace HB3 := Lib.hid (below_next HB3.out hb7); clear ho7 hb7)
                    | (refine build_on (by rfl) 33 #[(0, .tmp 53), (1, .tmp 57)] rfl _ _ (built_file _ _ _ _) (by simp [Act.eval]) ?_)
                    | (at_builtin; refine append_file rfl (.tmp 52) (.tmp 59) 22 rfl w.heap.size 33 i0 Tryd.underlying22 hi hz (.slice vo us.length vc) us ((p, d), .slice vo7 s vc7) rfl (HK3.out.1.alloc _) ⟨w7.heap.size, 0, none⟩ 1 rfl ⟨by rw [cell_of_row _ _ 0 _ _ _ (heap_last w7 _)]; rfl, by rw [Addr.add_lit, cell_of_row _ _ (0 + 1) _ _ _ (heap_last w7 _)]; rfl⟩ (hasText_one (has_of_own HO7.out)) HQ1.out (by have := HB3.out.size; simp; omega) ?_; intro v9 w9 ho hg; have HK9 := Lib.hid (keeps_more (x := ((p, d), .slice vo7 s vc7)) (keeps_below HK3.out ((Below.refl w7.heap.size w7).alloc (Nat.le_refl _) _)) (HO7.out.alloc _) HC.out.2.2 ho hg); have HB9 := Lib.hid (below_grown (HB3.out.alloc HB3.out.size _) hg (by have := HB3.out.size; simp; omega) (fun j hj => (HK3.out.1.lt j hj).1)); clear ho hg))
                  go_wp2_with (first | (go_at_call 22; refine (R1.out _).mono ?_; rintro e w10 ⟨rfl, hb10⟩; replace HK9 := Lib.hid (keeps_below HK9.out hb10); replace HB9 := Lib.hid (below_next HB9.out hb10); clear hb10))
                  go_step3
                  exact ⟨.inr (.inr ⟨rfl, v9, us ++ [((p, d), .slice vo7 s vc7)], some ad8, m8, c8, r.drop R, t2, ⟨_, _, _, _, _, _, _, _, _, _, _, _, _, _, _, _, _, _, _, _, _, _, _, _, _, _, _, _, _, _, _, _, _, _, _, _, _, _, _, _, _, _, _, _, _, _, _, _, _, _, _, _, _, _, _, _, _, _, _, _, _, _, _, _, _, _, rfl⟩, by rw [List.map_append]; exact HEND.out.2.2, HK9.out, by rw [List.map_append]; exact HNX.out, HEND.out.1, HT8.out _ HW5.out, HB9.out⟩), by have := HEND.out.2.1; simp only [getMeasure, sliceLen]; simp; omega⟩
              · have d1 : decide (m5 < R) = true := decide_eq_true (by omega)
                have HBAD := Lib.hid (got_cut HG.out HZ.out s (by rw [HH.out.1]; exact HES.out.2.1) (by rw [HH.out.2, ← hR, hlr]; exact fun h => hfit h.1))
                clear hp256 hs0 hs1 hlen h512 hcap hcap5 hlr hR hfit hm5 hc5 t5 s5
                go_wp2_with (first | (go_at_call 22; refine (R1.out _).mono ?_; rintro e w4 ⟨rfl, hb4⟩; have HB4 := Lib.hid (below_next HB3.out hb4); clear hb4))
                go_step3
                exact ⟨.inl ⟨rfl, ⟨_, _, _, _, _, _, _, _, _, _, _, _, _, _, _, _, _, _, _, _, _, _, _, _, _, _, _, _, _, _, _, _, _, _, _, _, _, _, _, _, _, _, _, _, _, _, _, _, _, _, _, _, _, _, _, _, _, _, _, _, _, _, _, _, _, _, _, _, _, rfl⟩, HBAD.out.1, HBAD.out.2, HB4.out⟩, by simp [getMeasure]⟩
            · have HBAD := Lib.hid (got_bad HG.out HZ.out (by rw [HH.out.1, HES.out.1]; exact hE0))
              have tE : (E != 0) = true := bne_iff_ne.2 hE0
              clear hE0
              go_wp2
              go_step3
              exact ⟨.inl ⟨rfl, ⟨_, _, _, _, _, _, _, _, _, _, _, _, _, _, _, _, _, _, _, _, _, _, _, _, _, _, _, _, _, _, _, _, _, _, _, _, _, _, _, _, _, _, _, _, _, _, _, _, _, _, _, _, _, _, _, _, _, _, _, _, _, _, _, _, _, _, _, _, _, rfl⟩, HBAD.out.1, HBAD.out.2, HB3.out⟩, by simp [getMeasure]⟩
        · have d24 : ((m : Int) == 1024) = false := by rw [beq_eq_false_iff_ne]; omega
          have HB2 := Lib.hid (Below.refl wr.heap.size wr)
          have HK0 := Lib.hid hk0
          clear hm ht hk hg hb htt hlb hml hz0 h24 hh hr hk0 hkc
          go_upto_region 6 with fail
          clear d24
          generalize hw2 : wr = w2 at HB2 ⊢
          subst hw2
          have HT2 := Lib.hid (text_keep HT.out HB2.out)
          have TK2 := Lib.hid (text_keep TK.out HB2.out)
          have HK2 := Lib.hid (keeps_below HK.out HB2.out)
          have HBB := Lib.hid (below_next HB.out HB2.out)
          clear HT TK HK HB2 HB
          obtain ⟨E, hE⟩ : ∃ E, getHErr h = E := ⟨_, rfl⟩
          obtain ⟨S, hS⟩ : ∃ S, getHSize h = S := ⟨_, rfl⟩
          obtain ⟨p, hp⟩ : ∃ p, getHPath h = p := ⟨_, rfl⟩
          rw [hE, hS, hp] at G1
          have HES := Lib.hid (And.intro hE (And.intro hS hp))
          clear hE hS hp
          go_upto_region 7 with (first | (go_at_call 27; refine (G1.out _ TK2.out).mono ?_; rintro e w3 ⟨rfl, hb3⟩; have HT3 := Lib.hid (text_keep HT2.out hb3); have HK3 := Lib.hid (keeps_below HK2.out hb3); have HB3 := Lib.hid (below_next HBB.out hb3); clear hb3))
          clear HT2 TK2 HK2 HBB G1 hmin hkc2
          by_cases hE0 : E = 0
          · subst hE0
            obtain ⟨hp256, hs0, hs1⟩ := path_le HES.out.1
            rw [HES.out.2.2] at hp256
            rw [HES.out.2.1] at hs0 hs1
            obtain ⟨s, rfl⟩ : ∃ s : Nat, S = (s : Int) := ⟨S.toNat, by omega⟩
            have hlen := getH_len HES.out.1
            rw [← HH.out.1, List.length_take, HM.out] at hlen
            have h512 : 512 ≤ m := by omega
            obtain ⟨ad, cap', e, -⟩ := text_pos HT3.out m 0 HM.out (by omega) _ rfl
            cases e
            have hcap := (text_cap HT3.out).2
            obtain ⟨ad5, -, s5, t5⟩ := cut_text (P := Tryd.prog) Tryd.underlying25 (e := 5) (by kernel_rfl) ad m c 512 512 (Nat.le_refl _) h512 hcap
            have HT5 := Lib.hid (t5 _ _ HT3.out).2
            rw [HH.out.2] at HT5
            obtain ⟨m5, hm5⟩ : ∃ m5, m5 = m - 512 := ⟨_, rfl⟩
            obtain ⟨c5, hc5⟩ : ∃ c5, c5 = c - 512 := ⟨_, rfl⟩
            rw [← hm5, ← hc5] at HT5
            have HW5 := Lib.hid (t5 _ _ HW.out).2
            rw [HH.out.2, ← hm5, ← hc5] at HW5
            have s5' : ∀ w, (Instr.sliceAt 25 (.slice (some ad) m c) (some (.int .i64 512)) none none).run Tryd.prog w = .ok (.slice (some ad5) m5 c5) w := fun w => by rw [hm5, hc5]; exact s5 w
            have hcap5 := (text_cap HT5.out).2
            have hlr : r.length = m5 := by rw [← HH.out.2, List.length_drop, HM.out, hm5]
            obtain ⟨R, hR⟩ : ∃ R, R = s + padN s := ⟨_, rfl⟩
            have R1 := Lib.hid (fun w => round7_any (s : Int) (by omega) w)
            rw [padN_round, ← hR] at R1
            have HS := Lib.hid (And.intro hp256 (And.intro hlr (And.intro hm5 hR)))
            by_cases hfit : R ≤ m5
            · have d1 : decide (m5 < R) = false := decide_eq_false (by omega)
              obtain ⟨ad6, s6, s7, t6⟩ := cut_text (P := Tryd.prog) Tryd.underlying25 (e := 5) (by kernel_rfl) ad5 m5 c5 s R (by omega) hfit hcap5
              have HT6 := Lib.hid (fun w h => (t6 w r h).1)
              have B6 := Lib.hid (fun w h => blank_any ((r.take R).drop s) (by rw [List.length_drop, List.length_take]; have := HML.out; omega) (.slice (some ad6) (R - s) (c5 - s)) w h)
              obtain ⟨R', hR'⟩ : ∃ R', R' = R - s := ⟨_, rfl⟩
              obtain ⟨c6, hc6⟩ : ∃ c6, c6 = c5 - s := ⟨_, rfl⟩
              rw [← hR', ← hc6] at s6 HT6 B6
              have HFT := Lib.hid (And.intro hfit (And.intro hcap5 (show s ≤ R by omega)))
              have HML5 := Lib.hid (show s ≤ c5 by omega)
              cases hbl : ((r.take R).drop s).all (· == 0) with
              | false =>
                have HBAD := Lib.hid (got_cut HG.out HZ.out s (by rw [HH.out.1]; exact HES.out.2.1) (by rw [HH.out.2, ← hR, hbl]; exact fun h => Bool.false_ne_true h.2))
                rw [hbl] at B6
                clear hp256 hs0 hs1 hlen h512 hcap hcap5 hlr hR hfit hbl hm5 hc5 t5 s5 s7 t6 hR' hc6
                go_wp2_with (first
                  | (go_at_call 22; refine (R1.out _).mono ?_; rintro e w4 ⟨rfl, hb4⟩; replace HT3 := Lib.hid (text_keep HT3.out hb4); replace HT5 := Lib.hid (text_keep HT5.out hb4); replace HB3 := Lib.hid (below_next HB3.out hb4); clear hb4)
                  | (go_at_call 26; refine (B6.out _ (HT6.out _ HT5.out)).mono ?_; rintro e w5 ⟨rfl, hb5⟩; have HB5 := Lib.hid (below_next HB3.out hb5); clear hb5))
                go_step3
                exact ⟨.inl ⟨rfl, ⟨_, _, _, _, _, _, _, _, _, _, _, _, _, _, _, _, _, _, _, _, _, _, _, _, _, _, _, _, _, _, _, _, _, _, _, _, _, _, _, _, _, _, _, _, _, _, _, _, _, _, _, _, _, _, _, _, _, _, _, _, _, _, _, _, _, _, _, _, _, rfl⟩, HBAD.out.1, HBAD.out.2, HB5.out⟩, by simp [getMeasure]⟩
              | true =>
                obtain ⟨ad8, -, s8, t8⟩ := cut_text (P := Tryd.prog) Tryd.underlying25 (e := 5) (by kernel_rfl) ad5 m5 c5 R R (Nat.le_refl _) hfit hcap5
                have HT8 := Lib.hid (fun w h => (t8 w r h).2)
                obtain ⟨m8, hm8⟩ : ∃ m8, m8 = m5 - R := ⟨_, rfl⟩
                obtain ⟨c8, hc8⟩ : ∃ c8, c8 = c5 - R := ⟨_, rfl⟩
                rw [← hm8, ← hc8] at s8 HT8
                obtain ⟨d, hd⟩ : ∃ d, r.take s = d := ⟨_, rfl⟩
                have hdl : d.length = s := by rw [← hd, List.length_take]; omega
                have HTD := Lib.hid (show ∀ w, HasText w (.slice (some ad5) m5 c5) r → HasText w (.slice (some ad5) s c5) d from fun w h => by
                  have h2 := text_take h s (by omega)
                  rwa [hd] at h2)
                have HNX := Lib.hid (show Got b (us.map (·.1) ++ [(p, d)]) (r.drop R) by
                  have h := got_next HG.out HH.out.1 HH.out.2 HES.out.1 s HES.out.2.1 (by rw [← hR, hlr]; exact hfit) (by rw [← hR]; exact hbl)
                  rwa [HES.out.2.2, hd, ← hR] at h)
                have hlen8 := got_len HG.out
                rw [List.length_map, ← HTT.out] at hlen8
                obtain ⟨ws, wl, q400, q4m, q1m⟩ := get8_nums us.length t m s R (by have := HL.out; have := HM.out; omega) (by omega) (by omega)
                obtain ⟨t2, ht2⟩ : ∃ t2, t2 = t + s := ⟨_, rfl⟩
                obtain ⟨L2, hL2⟩ : ∃ L2, L2 = us.length + 1 := ⟨_, rfl⟩
                rw [← ht2] at ws q4m
                rw [← hL2] at wl q400
                have M1 := Lib.hid (fun w => tooMuch_any (L2 : Int) (t2 : Int) q400 q4m w)
                have HQ1 := Lib.hid q1m
                have HEND := Lib.hid (And.intro (show (r.drop R).length = m8 by rw [List.length_drop, hlr, hm8]) (And.intro (get8_ends m5 m8 m R hm8 hm5 h512) (get8_total us p d t s t2 HTT.out ht2 hdl)))
                have HC := Lib.hid (And.intro hdl (And.intro (get8_small s R m5 m HFT.out.2.2 HFT.out.1 hm5 HML.out) hp256))
                have hsc : s ≤ c5 := HML5.out
                obtain ⟨vo, vc, rfl⟩ := own_slice HK3.out.1
                rw [hbl] at B6
                clear hp256 hs0 hs1 hlen h512 hcap hcap5 hlr hR hfit hbl hm5 hc5 t5 s5 s7 t6 hR' hc6 hm8 hc8 hd hdl hlen8 q400 q4m q1m ht2 hL2 t8
                go_upto_region 10 with (first
                  | (go_at_call 22; refine (R1.out _).mono ?_; rintro e w4 ⟨rfl, hb4⟩; replace HT5 := Lib.hid (text_keep HT5.out hb4); replace HK3 := Lib.hid (keeps_below HK3.out hb4); replace HB3 := Lib.hid (below_next HB3.out hb4); clear hb4)
                  | (go_at_call 26; refine (B6.out _ (HT6.out _ HT5.out)).mono ?_; rintro e w5 ⟨rfl, hb5⟩; replace HT5 := Lib.hid (text_keep HT5.out hb5); replace HK3 := Lib.hid (keeps_below HK3.out hb5); replace HB3 := Lib.hid (below_next HB3.out hb5); clear hb5 B6 s6))
                go_upto_region 12 with (first | (go_at_call 20; refine (M1.out _).mono ?_; rintro e w6 ⟨rfl, rfl⟩))
                clear ws wl M1
                go_upto_region 13 with (first
                  | (go_at_call 28; refine (clone_any _ ad5 s c5 d HC.out.1 HC.out.2.1 (HTD.out _ HT5.out)).mono ?_; rintro e w7 ⟨vo7, vc7, rfl, ho7, hb7⟩; replace HK3 := Lib.hid (keeps_below HK3.out hb7); have HO7 := Lib.hid (own_base ho7 HB3.out.size); replace HB3 := Lib.hid (below_next HB3.out hb7); clear ho7 hb7)
                  | (refine build_on (by rfl) 33 #[(0, .tmp 53), (1, .tmp 57)] rfl _ _ (built_file _ _ _ _) (by simp [Act.eval]) ?_)
                  | (at_builtin; refine append_file rfl (.tmp 52) (.tmp 59) 22 rfl w.heap.size 33 i0 Tryd.underlying22 hi hz (.slice vo us.length vc) us ((p, d), .slice vo7 s vc7) rfl (HK3.out.1.alloc _) ⟨w7.heap.size, 0, none⟩ 1 rfl ⟨by rw [cell_of_row _ _ 0 _ _ _ (heap_last w7 _)]; rfl, by rw [Addr.add_lit, cell_of_row _ _ (0 + 1) _ _ _ (heap_last w7 _)]; rfl⟩ (hasText_one (has_of_own HO7.out)) HQ1.out (by have := HB3.out.size; simp; omega) ?_; intro v9 w9 ho hg; have HK9 := Lib.hid (keeps_more (x := ((p, d), .slice vo7 s vc7)) (keeps_below HK3.out ((Below.refl w7.heap.size w7).alloc (Nat.le_refl _) _)) (HO7.out.alloc _) HC.out.2.2 ho hg); have HB9 := Lib.hid (below_grown (HB3.out.alloc HB3.out.size _) hg (by have := HB3.out.size; simp; omega) (fun j hj => (HK3.out.1.lt j hj).1)); clear ho hg))
                go_wp2_with (first | (go_at_call 22; refine (R1.out _).mono ?_; rintro e w10 ⟨rfl, hb10⟩; replace HK9 := Lib.hid (keeps_below HK9.out hb10); replace HB9 := Lib.hid (below_next HB9.out hb10); clear hb10))
                go_step3
                exact ⟨.inr (.inr ⟨rfl, v9, us ++ [((p, d), .slice vo7 s vc7)], some ad8, m8, c8, r.drop R, t2, ⟨_, _, _, _, _, _, _, _, _, _, _, _, _, _, _, _, _, _, _, _, _, _, _, _, _, _, _, _, _, _, _, _, _, _, _, _, _, _, _, _, _, _, _, _, _, _, _, _, _, _, _, _, _, _, _, _, _, _, _, _, _, _, _, _, _, _, rfl⟩, by rw [List.map_append]; exact HEND.out.2.2, HK9.out, by rw [List.map_append]; exact HNX.out, HEND.out.1, HT8.out _ HW5.out, HB9.out⟩), by have := HEND.out.2.1; simp only [getMeasure, sliceLen]; simp; omega⟩
            · have d1 : decide (m5 < R) = true := decide_eq_true (by omega)
              have HBAD := Lib.hid (got_cut HG.out HZ.out s (by rw [HH.out.1]; exact HES.out.2.1) (by rw [HH.out.2, ← hR, hlr]; exact fun h => hfit h.1))
              clear hp256 hs0 hs1 hlen h512 hcap hcap5 hlr hR hfit hm5 hc5 t5 s5
              go_wp2_with (first | (go_at_call 22; refine (R1.out _).mono ?_; rintro e w4 ⟨rfl, hb4⟩; have HB4 := Lib.hid (below_next HB3.out hb4); clear hb4))
              go_step3
              exact ⟨.inl ⟨rfl, ⟨_, _, _, _, _, _, _, _, _, _, _, _, _, _, _, _, _, _, _, _, _, _, _, _, _, _, _, _, _, _, _, _, _, _, _, _, _, _, _, _, _, _, _, _, _, _, _, _, _, _, _, _, _, _, _, _, _, _, _, _, _, _, _, _, _, _, _, _, _, rfl⟩, HBAD.out.1, HBAD.out.2, HB4.out⟩, by simp [getMeasure]⟩
          · have HBAD := Lib.hid (got_bad HG.out HZ.out (by rw [HH.out.1, HES.out.1]; exact hE0))
            have tE : (E != 0) = true := bne_iff_ne.2 hE0
            clear hE0
            go_wp2
            go_step3
            exact ⟨.inl ⟨rfl, ⟨_, _, _, _, _, _, _, _, _, _, _, _, _, _, _, _, _, _, _, _, _, _, _, _, _, _, _, _, _, _, _, _, _, _, _, _, _, _, _, _, _, _, _, _, _, _, _, _, _, _, _, _, _, _, _, _, _, _, _, _, _, _, _, _, _, _, _, _, _, rfl⟩, HBAD.out.1, HBAD.out.2, HB3.out⟩, by simp [getMeasure]⟩
end Go.Proofs.YtocpplnnnflekaaDoor
namespace Go.Proofs.YtocpplnnnflekaaDoor
open Go.RowKit
theorem ustarFace : UstarFace where
  put := fun w v l hv hp hl ht => put8_any w v l hv hp hl ht
  get := fun w v b hv hl => get8_any w v b hv hl
theorem sizeFace : SizeFace where
  size := fun w v zs hv hl hz => size_any w v zs hv (by omega) (fun z h => by have := hz z h; omega)
end Go.Proofs.YtocpplnnnflekaaDoor
namespace Go.Proofs.YtocpplnnnflekaaDoor
open Go.ChangeShapes Go.WideShapes Go.ChangeAt Go.RowKit
theorem open_has_sized {H : Type} {enc : TypeId × Value → H} {P : Program} {w : World} {base : Nat} {sp : Nat → Bool} {held : Bool} {r : Reach} {b0 : Nat} {t e : TypeId} {v : Value} {d : DataW H} {p : List MemPlace}
    (ht : P.underlying t = some (.slice e)) (he : P.underlying e = some (.int .u8)) (hc : P.cellsOf e = 1)
    (hv : Value.okWide P w r b0 t v) (h : DataW.Trod enc P w base sp held t v d p) :
    ∃ bs : List (BitVec 32), (∀ x ∈ bs, u32 x < 256) ∧ HasBytes w v bs ∧ bs.length ≤ maxLen ∧ (bs = [] ∨ ∃ elems spare, d = .slice elems spare ∧ bs.length ≤ elems.length + spare.length) := by
  obtain ⟨a1, len, cap, rfl⟩ := okWide_slice ht hv
  obtain ⟨fuel, hf⟩ := h
  rcases open_ints ht he hc hf with ⟨hcs, -⟩ | ⟨a, len', cap', zs, hcs, _, hl, hm, hz, hx, hcell, hwz⟩
  · simp [Value.cells] at hcs
    obtain ⟨rfl, rfl, rfl⟩ := hcs
    exact ⟨[], by simp, ⟨none, 0, rfl, fun _ => ⟨rfl, rfl⟩, fun _ h => by cases h⟩, by simp, .inl rfl⟩
  · simp [Value.cells] at hcs
    obtain ⟨rfl, rfl, rfl⟩ := hcs
    have hlz : len ≤ zs.length := by rw [hz]; split <;> omega
    have hbd : ∀ j, j < len → 0 ≤ zs.getD j 0 ∧ zs.getD j 0 < 256 := fun j hj => by
      rw [show zs.getD j 0 = zs[j] from by simp [show j < zs.length by omega]]
      exact wf_u8_bd (hwz _ (List.getElem_mem _))
    have hlen : ((List.range len).map fun j => BitVec.ofInt 32 (zs.getD j 0)).length = len := by simp
    refine ⟨(List.range len).map fun j => BitVec.ofInt 32 (zs.getD j 0), fun x hx => ?_, ⟨some a, cap, by rw [hlen], (fun h => by cases h), fun ad had => ⟨by rw [hlen]; omega, fun j u hu => ?_⟩⟩, by rw [hlen]; omega, .inr ⟨_, _, (congrArg Prod.fst hx : _), by rw [hlen]; simp [lits]; omega⟩⟩
    · obtain ⟨j, hj, rfl⟩ := List.mem_map.1 hx
      have := hbd j (by simpa using hj)
      rw [u32_of _ (by omega) (by omega)]; omega
    · cases had
      have hj : j < len := by
        have := (List.getElem?_eq_some_iff.1 hu).1
        simpa [bytesL] using this
      have hb := hbd j hj
      have e1 : u = .int .u8 (zs.getD j 0) := by
        have e2 := bytesL_get ((List.range len).map fun j => BitVec.ofInt 32 (zs.getD j 0)) j (by simpa using hj)
        rw [e2] at hu
        rw [← Option.some.inj hu, show ((List.range len).map fun j => BitVec.ofInt 32 (zs.getD j 0)).getD j 0#32 = BitVec.ofInt 32 (zs.getD j 0) from by simp [hj], u32_of _ (by omega) (by omega)]
      rw [e1]; exact hcell j (by omega)
/-- The form's own reach bounds how many bytes a slice among the arguments has. -/
theorem sized_has {H : Type} {P : Program} {ts : List TypeId} {ds : List (DataW H)} {j : Nat} {t e : TypeId} {d : DataW H} {bs : List (BitVec 32)} (h : (DataW.weightsEach P ts ds).all (· ≤ reachBytes) = true)
    (ht : ts[j]? = some t) (hd : ds[j]? = some d) (hu : P.underlying t = some (.slice e)) (hb : P.bytesOf e = 1) (ho : bs = [] ∨ ∃ elems spare, d = .slice elems spare ∧ bs.length ≤ elems.length + spare.length) : bs.length ≤ 140737488351232 := by
  rcases ho with rfl | ⟨elems, spare, rfl, hl⟩
  · simp
  · have := sized_slice h ht hd hu
    rw [hb, Nat.mul_one] at this
    have hr : reachBytes = 140737488351232 := by decide
    omega
end Go.Proofs.YtocpplnnnflekaaDoor
namespace Go.Proofs.YtocpplnnnflekaaDoor
open Go.ChangeShapes Go.WideShapes Go.ChangeAt Go.RowKit
theorem mem_weightsAll {H : Type} {P : Program} {e : TypeId} {d : DataW H} {m : Nat} : ∀ {ds : List (DataW H)}, d ∈ ds → m ∈ DataW.weights P e d → m ∈ DataW.weightsAll P e ds
  | x :: ds, h, hm => by
    simp only [DataW.weightsAll, List.mem_append]
    rcases List.mem_cons.1 h with rfl | h
    · exact .inl hm
    · exact .inr (mem_weightsAll h hm)
end Go.Proofs.YtocpplnnnflekaaDoor
namespace Go.Proofs.YtocpplnnnflekaaDoor
open Go.ChangeShapes Go.WideShapes Go.ChangeAt Go.RowKit
/-- The cells of a slice of bytes that lies in memory. -/
theorem open_bytes_cell {H : Type} {enc : TypeId × Value → H} {P : Program} {w : World} {base : Nat} {sp : Nat → Bool} {held : Bool} {t e : TypeId} {v : Value} {d : DataW H} {p : List MemPlace} {fuel : Nat}
    (ht : P.underlying t = some (.slice e)) (he : P.underlying e = some (.int .u8)) (hc : P.cellsOf e = 1) (hf : DataW.trod enc P w base sp held fuel t [v] = some (d, p)) :
    ∃ bs : List (BitVec 32), (∀ x ∈ bs, u32 x < 256) ∧ HasBytes w v bs ∧ (bs = [] ∨ ∃ elems spare, d = .slice elems spare ∧ bs.length ≤ elems.length + spare.length) := by
  rcases open_ints ht he hc hf with ⟨hcs, -⟩ | ⟨a, len, cap, zs, hcs, _, hl, hm, hz, hx, hcell, hwz⟩
  · simp only [List.cons.injEq, and_true] at hcs
    subst hcs
    exact ⟨[], by simp, ⟨none, 0, rfl, fun _ => ⟨rfl, rfl⟩, fun _ h => by cases h⟩, .inl rfl⟩
  · simp only [List.cons.injEq, and_true] at hcs
    subst hcs
    have hlz : len ≤ zs.length := by rw [hz]; split <;> omega
    have hbd : ∀ j, j < len → 0 ≤ zs.getD j 0 ∧ zs.getD j 0 < 256 := fun j hj => by
      rw [show zs.getD j 0 = zs[j] from by simp [show j < zs.length by omega]]
      exact wf_u8_bd (hwz _ (List.getElem_mem _))
    have hlen : ((List.range len).map fun j => BitVec.ofInt 32 (zs.getD j 0)).length = len := by simp
    refine ⟨(List.range len).map fun j => BitVec.ofInt 32 (zs.getD j 0), fun x hx => ?_, ⟨some a, cap, by rw [hlen], (fun h => by cases h), fun ad had => ⟨by rw [hlen]; omega, fun j u hu => ?_⟩⟩, .inr ⟨_, _, (congrArg Prod.fst hx : _), by rw [hlen]; simp [lits]; omega⟩⟩
    · obtain ⟨j, hj, rfl⟩ := List.mem_map.1 hx
      have := hbd j (by simpa using hj)
      rw [u32_of _ (by omega) (by omega)]; omega
    · cases had
      have hj : j < len := by
        have := (List.getElem?_eq_some_iff.1 hu).1
        simpa [bytesL] using this
      have hb := hbd j hj
      have e1 : u = .int .u8 (zs.getD j 0) := by
        have e2 := bytesL_get ((List.range len).map fun j => BitVec.ofInt 32 (zs.getD j 0)) j (by simpa using hj)
        rw [e2] at hu
        rw [← Option.some.inj hu, show ((List.range len).map fun j => BitVec.ofInt 32 (zs.getD j 0)).getD j 0#32 = BitVec.ofInt 32 (zs.getD j 0) from by simp [hj], u32_of _ (by omega) (by omega)]
      rw [e1]; exact hcell j (by omega)
theorem filesC_inv (us : List (F8 × Value)) : ∀ j u, (filesC us)[j]? = some u → ∃ i x, us[i]? = some x ∧ ((j = i * 2 ∧ u = .string (str x.1.1)) ∨ (j = i * 2 + 1 ∧ u = x.2)) := by
  induction us with
  | nil => intro j u h; simp [filesC] at h
  | cons x t ih =>
    intro j u h
    match j, h with
    | 0, h => exact ⟨0, x, rfl, .inl ⟨rfl, by simpa [filesC] using h.symm⟩⟩
    | 1, h => exact ⟨0, x, rfl, .inr ⟨rfl, by simpa [filesC] using h.symm⟩⟩
    | j + 2, h =>
      obtain ⟨i, y, h1, h2⟩ := ih j u (by simpa [filesC] using h)
      exact ⟨i + 1, y, by simpa using h1, h2.elim (fun ⟨a, b⟩ => .inl ⟨by omega, b⟩) (fun ⟨a, b⟩ => .inr ⟨by omega, b⟩)⟩
theorem sized_elem {H : Type} {P : Program} {ts : List TypeId} {ds : List (DataW H)} {k : Nat} {t e : TypeId} {fs : Array Field} {elems spare parts : List (DataW H)} (h : (DataW.weightsEach P ts ds).all (· ≤ reachBytes) = true)
    (ht : ts[k]? = some t) (hd : ds[k]? = some (.slice elems spare)) (hu : P.underlying t = some (.slice e)) (he : P.underlying e = some (.struct fs)) (hm : (.agg parts : DataW H) ∈ elems) : (DataW.weightsEach P (fs.toList.map (·.type)) parts).all (· ≤ reachBytes) = true := by
  rw [List.all_eq_true]
  intro n hn
  refine List.all_eq_true.1 h _ (DataW.weights_mem_each ht hd n ?_)
  simp only [DataW.weights, hu, List.mem_cons, List.mem_append]
  exact .inr (.inl (mem_weightsAll hm (by simp only [DataW.weights, he]; exact hn)))
theorem open_files_has {H : Type} {enc : TypeId × Value → H} {P : Program} {w : World} {base : Nat} {held : Bool} {r : Reach} {b0 : Nat} {t e q : TypeId} {f0 f1 : Field} {v : Value} {d : DataW H} {p : List MemPlace} {ts : List TypeId} {ds : List (DataW H)} {k : Nat}
    (ht : P.underlying t = some (.slice e)) (he : P.underlying e = some (.struct #[f0, f1])) (ce : P.cellsOf e = 2) (o0 : f0.offset = 0) (o1 : f1.offset = 1) (c0 : P.cellsOf f0.type = 1) (c1 : P.cellsOf f1.type = 1)
    (h0 : P.underlying f0.type = some .string) (h1 : P.underlying f1.type = some (.slice q)) (hq : P.underlying q = some (.int .u8)) (cq : P.cellsOf q = 1) (bq : P.bytesOf q = 1) (be : P.bytesOf e = 40)
    (hv : Value.okWide P w r b0 t v) (h : DataW.Trod enc P w base (fun _ => true) held t v d p) (hreach : (DataW.weightsEach P ts ds).all (· ≤ reachBytes) = true) (hts : ts[k]? = some t) (hds : ds[k]? = some d) :
    ∃ l : List F8, (∀ f ∈ l, f.1.length ≤ 140737488351232 ∧ f.2.length ≤ 140737488351232) ∧ HasFiles w v l ∧ l.length ≤ 140737488351232 := by
  have hr : reachBytes = 140737488351232 := by decide
  obtain ⟨a1, len, cap, rfl⟩ := okWide_slice ht hv
  obtain ⟨fuel, hf⟩ := h
  rcases Go.Deep.open_slice_pairs ht he ce o0 o1 c0 c1 hf with ⟨hcs, -⟩ | ⟨a, len', cap', m, n, V0, V1, D0, D1, P0, P1, hcs, _, hl, hm, hmm, hx, hrow⟩
  · simp [Value.cells] at hcs
    obtain ⟨rfl, rfl, rfl⟩ := hcs
    exact ⟨[], by simp, files_nil w, by simp⟩
  · simp [Value.cells] at hcs
    obtain ⟨rfl, rfl, rfl⟩ := hcs
    have hd : d = .slice ((List.range len).map fun i => .agg [D0 i, D1 i]) ((List.range (m - len)).map fun j => .agg [D0 (len + j), D1 (len + j)]) := congrArg Prod.fst hx
    have hlm : len ≤ m := by rw [hmm]; split <;> omega
    have each : ∀ i, i < len → ∃ y : F8 × Value, w.cell? (a.add (i * 2)) = some (.string (str y.1.1)) ∧ w.cell? (a.add (i * 2 + 1)) = some y.2 ∧ HasText w y.2 y.1.2 ∧ y.1.1.length ≤ 140737488351232 ∧ y.1.2.length ≤ 140737488351232 := fun i hi => by
      obtain ⟨g1, g2, g3, g4⟩ := hrow i (by omega)
      obtain ⟨s, e1, e2, -⟩ := DataW.trod_string h0 g3
      obtain ⟨l0, rfl⟩ := str_of s
      obtain ⟨bs, k1, k2, k3⟩ := open_bytes_cell h1 hq cq g4
      obtain ⟨tx, t1, t2⟩ := text_of_bytes k2 k1
      have hw := sized_elem (parts := [D0 i, D1 i]) hreach hts (by rw [hds, hd]) ht he (List.mem_map.2 ⟨i, by simpa using hi, rfl⟩)
      simp only [List.cons.injEq, and_true] at e1
      have e3 : D0 i = .lit (.string (str l0).data.toList) := congrArg Prod.fst e2
      have w0 := sized_string hw (j := 0) (t := f0.type) rfl (by rw [e3]; rfl)
      rw [hr] at w0
      refine ⟨((l0, tx), V1 i), by rw [g1, e1], g2, t1, by simpa [str] using w0, ?_⟩
      rw [show ((l0, tx) : F8).2 = tx from rfl, t2]
      rcases k3 with rfl | ⟨elems, spare, e4, k4⟩
      · simp
      · have w1 := sized_slice hw (j := 1) (t := f1.type) rfl (by rw [e4]; rfl) h1
        rw [bq, hr, Nat.mul_one] at w1
        omega
    obtain ⟨y, hy⟩ := Go.Deep.choose_lt each
    have hus : ∀ i x, ((List.range len).map y)[i]? = some x → i < len ∧ x = y i := fun i x hx => by
      have hi : i < len := by
        have := (List.getElem?_eq_some_iff.1 hx).1
        simpa using this
      refine ⟨hi, ?_⟩
      rw [List.getElem?_map, List.getElem?_range hi] at hx
      exact (Option.some.inj hx).symm
    have hulen : ((List.range len).map y).length = len := by simp
    refine ⟨((List.range len).map y).map (·.1), fun f hf => ?_, ⟨(List.range len).map y, rfl, fun x hx => ?_, some a, cap, by rw [hulen], (fun h => by cases h), fun ad had => ⟨by rw [hulen]; exact hl, fun j u hu => ?_⟩⟩, by
      rw [List.length_map, hulen]
      have := sized_slice hreach hts (by rw [hds, hd]) ht
      rw [be, hr, List.length_map, List.length_range] at this
      omega⟩
    · obtain ⟨x, hx, rfl⟩ := List.mem_map.1 hf
      obtain ⟨i, hi, rfl⟩ := List.mem_map.1 hx
      exact (hy i (by simpa using hi)).2.2.2
    · obtain ⟨i, hi, rfl⟩ := List.mem_map.1 hx
      exact (hy i (by simpa using hi)).2.2.1
    · cases had
      obtain ⟨i, x, hx, hor⟩ := filesC_inv _ j u hu
      obtain ⟨hi, rfl⟩ := hus i x hx
      rcases hor with ⟨rfl, rfl⟩ | ⟨rfl, rfl⟩
      · exact (hy i hi).1
      · exact (hy i hi).2.1
theorem u16_of8 {a : Int} (h : (Lit.int .u16 a).wf = true) : ∃ n : Nat, a = (n : Int) ∧ n < 65536 := by
  simp [Lit.wf, IntKind.min, IntKind.max, IntKind.signed, IntKind.bits] at h
  exact ⟨a.toNat, by omega, by omega⟩
end Go.Proofs.YtocpplnnnflekaaDoor
