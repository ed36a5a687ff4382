/-
What Write of package sha leaves: the Hash holds the bytes behind those that it held; of old memory nothing but its block has changed.
-/
import Derived.Test.YtnfklikphkkpoaaDoorShaHash
import Derived.Test.YtnfklikphkkpoaaDoorShaFace
import Derived.StillTailTactics
namespace Go.Proofs.YtnfklikphkkpoaaDoor
open Go.RowKit
theorem infoU8 : (Tryd.prog.info? 5).map (·.size) = some 1 := by kernel_rfl
theorem slice64 (g r : Nat) (hr : (r : Int) < 64) : ∀ w, (Instr.sliceAt 40 (.pointer (some ⟨g, 8, none⟩)) (some (.int .i64 r)) none none).run Tryd.prog w = .ok (.slice (some ⟨g, 8 + r, none⟩) (64 - r) (64 - r)) w := by
  intro w
  have hl : Tryd.prog.arrayLen 40 = 64 := by kernel_rfl
  have he : Tryd.prog.elem 40 = 5 := by kernel_rfl
  have hc : Tryd.prog.cellsOf 5 = 1 := by kernel_rfl
  obtain ⟨inf, hinf⟩ : ∃ inf, Tryd.prog.info? 5 = some inf := info_of Tryd.underlying5
  rw [run_sliceAt_array_l w 40 _ (by kernel_rfl) .i64 r (by omega) (by rw [hl]; omega), he, hl, run_sizeOf w hinf, hc]
  have e : ¬ 64 = r := by omega
  have ha : (⟨g, 8, none⟩ : Addr).add r = ⟨g, 8 + r, none⟩ := by unfold Addr.add; split <;> simp_all
  simp [slicedAt, e, ha]
theorem OnlyAt.solo {g : Nat} {w w1 w2 : World} (h : OnlyAt g w w1) (k : Solo g w1 w2) : OnlyAt g w w2 :=
  ⟨k.os.trans h.os, k.tape.trans h.tape, k.output.trans h.output, by rw [k.size]; exact h.size, fun j hj hne => (k.block j hne).trans (h.block j hj hne)⟩
theorem OnlyAt.drew {g : Nat} {w w1 : World} (h : OnlyAt g w w1) : OnlyAt g w w1.drew := ⟨h.os, h.tape, h.output, h.size, h.block⟩
theorem OnlyAt.more {g : Nat} {w w1 w2 : World} (h : OnlyAt g w w1) (k : Below w1.heap.size w1 w2) : OnlyAt g w w2 :=
  ⟨k.os.trans h.os, k.tape.trans h.tape, k.output.trans h.output, Nat.le_trans h.size k.size, fun j hj hne => (k.block j (Nat.lt_of_lt_of_le hj h.size)).trans (h.block j hj hne)⟩
theorem Solo.trans {g : Nat} {w w1 w2 : World} (h : Solo g w w1) (k : Solo g w1 w2) : Solo g w w2 :=
  ⟨k.os.trans h.os, k.tape.trans h.tape, k.output.trans h.output, k.size.trans h.size, fun j hne => (k.block j hne).trans (h.block j hne)⟩
/-- The bytes behind the first n of a slice, at an address named by the cut. -/
theorem cut_slice {P : Program} {t e : TypeId} (ht : P.underlying t = some (.slice e)) (he : (P.info? e).map (·.size) = some 1) (ad : Addr) (len cap n : Nat) (hn : n ≤ len) (hc : len ≤ cap) :
    ∃ ad', (n < len → ad' = ad.add n) ∧ ∀ w, (Instr.sliceAt t (.slice (some ad) len cap) (some (.int .i64 n)) none none).run P w = .ok (.slice (some ad') (len - n) (cap - n)) w := by
  have hel : P.elem t = e := by simp [Program.elem, ht]
  obtain ⟨inf, hinf, hs⟩ : ∃ inf, P.info? e = some inf ∧ inf.size = 1 := by
    cases h : P.info? e with
    | none => simp [h] at he
    | some i => exact ⟨i, rfl, by simpa [h] using he⟩
  have hce : P.cellsOf e = 1 := by simp [Program.cellsOf, hinf, hs]
  refine ⟨if cap = n then ad else ad.add n, fun h => if_neg (by omega), fun w => ?_⟩
  have hsl : P.underlying t = some (.slice (P.elem t)) := by rw [hel]; exact ht
  rw [run_sliceAt_slice _ _ _ _ _ _ hsl, run_slice_l _ _ _ _ _ hsl _ _ (by omega) (by omega), hel, run_sizeOf w hinf, hce]
  by_cases h : cap = n <;> simp [sliced, h]
theorem add_add (ad : Addr) (n j : Nat) : (ad.add n).add j = ad.add (n + j) := by
  unfold Addr.add
  by_cases h : n = 0
  · subst h; simp
  · by_cases h2 : j = 0
    · subst h2; simp [h]
    · simp [h, h2, Nat.add_assoc]
theorem drop_cells {w : World} {ad : Addr} {D : List (BitVec 32)} {n : Nat} (h : ∀ j u, (bytesL D)[j]? = some u → w.cell? (ad.add j) = some u) : ∀ j u, (bytesL (D.drop n))[j]? = some u → w.cell? ((ad.add n).add j) = some u := by
  intro j u hu
  rw [add_add]
  refine h (n + j) u ?_
  rw [← hu]
  simp [bytesL, List.getElem?_drop]
/-- What is left of the bytes, behind whatever has changed in block g alone. -/
theorem rest_has {wr w2 : World} {g n cap : Nat} {ad ad' : Addr} {D : List (BitVec 32)} (hc : ∀ j u, (bytesL D)[j]? = some u → wr.cell? (ad.add j) = some u) (hap : D ≠ [] → Apart (.slice (some ad) D.length cap) g) (hn : n ≤ D.length) (hcap : D.length ≤ cap)
    (had : n < D.length → ad' = ad.add n) (hk : ∀ k, k < wr.heap.size → k ≠ g → w2.heap[k]? = wr.heap[k]?) :
    HasBytes w2 (.slice (some ad') (D.length - n) (cap - n)) (D.drop n) ∧ (D.drop n ≠ [] → Apart (.slice (some ad') (D.length - n) (cap - n)) g) := by
  have hblk : ∀ m, (ad.add m).block = ad.block := fun m => by unfold Addr.add; split <;> rfl
  refine ⟨⟨some ad', cap - n, by rw [List.length_drop], (fun h => by cases h), fun a ha => ⟨by rw [List.length_drop]; omega, fun j u hu => ?_⟩⟩, fun hne a l c e => ?_⟩
  · cases ha
    have hj : j < D.length - n := by have := (List.getElem?_eq_some_iff.1 hu).1; rwa [bytesL_length, List.length_drop] at this
    rw [had (by omega)]
    have h1 := drop_cells hc j u hu
    rw [add_add] at h1 ⊢
    have h2 := World.block_lt_of_cell? wr _ h1
    have h3 : (ad.add (n + j)).block ≠ g := by
      rw [hblk]; exact hap (fun h => by rw [h] at hj; simp at hj) ad _ _ rfl
    exact (World.cell?_of_block (hk _ h2 h3)).trans h1
  · cases e
    have hn2 : n < D.length := by
      rcases Nat.lt_or_ge n D.length with h | h
      · exact h
      · exact absurd (List.drop_eq_nil_of_le h) hne
    rw [had hn2, hblk]
    exact hap (fun h => by rw [h] at hn2; simp at hn2) ad _ _ rfl
theorem infoWords : (Tryd.prog.info? 38).map (·.size) = some 8 := by kernel_rfl
theorem infoBlock : (Tryd.prog.info? 40).map (·.size) = some 64 := by kernel_rfl
/-- The table of the constants is no Hash. -/
theorem tab_apart {w : World} {g : Nat} {t : TypeId} {h p : Nat → BitVec 32} {n : Nat} (tab : Tab w) (e : w.heap[g]? = some (.cells (stC h p n).toArray t (0, 0))) : 0 ≠ g := by
  intro he
  have h1 := tab 8 (by omega)
  rw [he, cell_of_row w g 8 _ _ _ e, List.getElem?_toArray, stC_byte h p n 0 (by omega)] at h1
  cases h1
theorem tab_only {w w' : World} {g : Nat} (tab : Tab w) (ho : OnlyAt g w w') (hne : 0 ≠ g) : Tab w' := fun i hi => by
  rw [cell_same (ho.block 0 (tab_lt tab) hne)]; exact tab i hi
set_option maxHeartbeats 2000000 in
theorem write_any (w : World) (g : Nat) (bs cs : List (BitVec 32)) (v : Value) (tab : Tab w) (hi : Holds 45 w g bs) (hv : HasBytes w v cs) (hap : cs ≠ [] → Apart v g) (hlen : bs.length + cs.length ≤ 2199023255552) :
    Calls Tryd.prog 15 #[.pointer (some ⟨g, 0, none⟩), v] w fun e w' => e = .returned (.tuple #[]) ∧ Holds 45 w' g (bs ++ cs) ∧ OnlyAt g w w' := by
  have HT := Lib.hid tab
  have HI := Lib.hid hi
  have HV := Lib.hid hv
  have HNE := Lib.hid (show 0 ≠ g from by obtain ⟨p, hp, -⟩ := hi; exact tab_apart tab hp)
  clear tab hi hv
  go_enter Tryd.func15, Tryd.ntmps15
  go_wp2
  go_loopw [1, 4] (fun u _ wr => ∃ A D, A ++ D = bs ++ cs ∧ Holds 45 wr g A ∧ HasBytes wr u D ∧ (D ≠ [] → Apart u g) ∧ OnlyAt g w wr) (fun u _ _ => match u with | .slice _ l _ => l | _ => 0)
  case atStart => exact ⟨bs, cs, rfl, HI.out, HV.out, hap, ⟨rfl, rfl, rfl, Nat.le_refl _, fun _ _ _ => rfl⟩⟩
  case round =>
    clear HI HV hap
    obtain ⟨A, D, hAD, hi, hv, hap, ho⟩ := hrel
    obtain ⟨ao, cap, rfl, hnil, hc⟩ := hv
    have hAl : A.length + D.length ≤ 2199023255552 := by rw [← List.length_append, hAD, List.length_append]; exact hlen
    cases ao with
    | none =>
      obtain ⟨rfl, rfl⟩ := hnil rfl
      have HI := Lib.hid hi
      clear hi hc
      go_wp2
      refine bodyPost_end (results_none rfl _ _ _) rfl ⟨rfl, ?_, ho⟩
      rw [← hAD, List.append_nil]; exact HI.out
    | some ad =>
      obtain ⟨hcap, hcell⟩ := hc ad rfl
      by_cases hm : D.length = 0
      · have HI := Lib.hid hi
        clear hi hc hcell
        go_wp2
        refine bodyPost_end (results_none rfl _ _ _) rfl ⟨rfl, ?_, ho⟩
        rw [← hAD, List.eq_nil_of_length_eq_zero hm, List.append_nil]; exact HI.out
      · obtain ⟨p, hh, hp⟩ := hi
        obtain ⟨r, hr⟩ : ∃ r : Nat, r = A.length % 64 := ⟨_, rfl⟩
        have er : (A.length : Int).tmod 64 = (r : Int) := by rw [Int.tmod_eq_emod_of_nonneg (by omega)]; omega
        have hr64 : (r : Int) < 64 := by omega
        have hm0 : (0 : Int) < (D.length : Int) := by omega
        have cl := cell_len hh
        have hsl := slice64 g r hr64
        have HH := Lib.hid hh
        have HP := Lib.hid hp
        have HC := Lib.hid hcell
        have HR := Lib.hid hr
        clear hh hp hcell hc hm hr
        go_wp2
        go_still_tail 10, (by kernel_rfl)
        change wpList _ _ _ _ _ wr.drew
        obtain ⟨n, hn⟩ : ∃ n : Nat, n = Nat.min D.length (64 - r) := ⟨_, rfl⟩
        have hn' : n ≤ D.length ∧ n ≤ 64 - r ∧ 0 < n := by rw [show Nat.min D.length (64 - r) = min D.length (64 - r) from rfl] at hn; omega
        obtain ⟨ad', had', hcut⟩ := cut_slice Tryd.underlying22 infoU8 ad D.length cap n hn'.1 hcap
        have hXl : (D.take n).length = n := by rw [List.length_take]; omega
        have hD : A ++ D.take n ++ D.drop n = bs ++ cs := by rw [List.append_assoc, List.take_append_drop]; exact hAD
        have HH' := Lib.hid (show wr.drew.heap[g]? = _ from HH.out)
        have HS := Lib.hid (show ∀ j u, (bytesL (D.take n))[j]? = some u → wr.drew.cell? (ad.add j) = some u from fun j u hu => HC.out j u (by
          have : j < n := by have := (List.getElem?_eq_some_iff.1 hu).1; rwa [bytesL_length, hXl] at this
          rw [← hu]; simp [bytesL, this]))
        clear cl hsl
        refine copy_in rfl (.tmp 18) (.tmp 19) 22 22 rfl 5 Tryd.underlying22 infoU8 g (8 + r) _ _ _ _ _ rfl rfl _ _ HH'.out (bytesL (D.take n)) n (by rw [bytesL_length, hXl]) hn HS.out (by rw [bytesL_length, hXl, stC_length]; omega) (bytesL_one _) ?_
        intro w1 hg1 hs1
        rw [stC_copy _ _ _ _ _ (by rw [hXl]; omega)] at hg1
        obtain ⟨L1, hL1⟩ : ∃ L1 : Nat, L1 = A.length + n := ⟨_, rfl⟩
        obtain ⟨r1, hr1⟩ : ∃ r1 : Nat, r1 = L1 % 64 := ⟨_, rfl⟩
        have e0 := wrap_at ((A.length : Int) + (n : Int)) L1 (by omega) (by omega)
        have er1 : (L1 : Int).tmod 64 = (r1 : Int) := by rw [Int.tmod_eq_emod_of_nonneg (by omega)]; omega
        have c1 := cell_len hg1
        have HG1 := Lib.hid hg1
        have HL := Lib.hid (And.intro hn' (And.intro hL1 hr1))
        have ho1 := ho.drew.solo hs1
        have HW := Lib.hid (And.intro hs1 ho1)
        have HD := Lib.hid (And.intro hD (And.intro hXl had'))
        clear hg1 hs1 ho1 hn hL1 hr1 hn' hXl HH' HS hAD hD had'
        go_wp2_with (first | (refine store_cell rfl 2 (.tmp 31) (.tmp 29) rfl rfl .i64 g 72 _ _ _ HG1.out rfl rfl (by simp [stC_length]) (by kernel_rfl) ?_; intro w2 hg2 hs2; rw [stC_set] at hg2; have c2 := cell_len hg2; have HG2 := Lib.hid hg2; have HW2 := Lib.hid (And.intro (HW.out.1.trans hs2) (HW.out.2.solo hs2)); clear HG1 c1 hg2 hs2 HW))
        · rename_i h0
          have h0 : r1 = 0 := by simpa using h0
          have HR0 := Lib.hid (range_words (w := w2.drew) HG2.out)
          have HR1 := Lib.hid (range_bytes (w := w2.drew) HG2.out)
          have HT2 := Lib.hid (tab_only HT.out HW2.out.2.drew HNE.out)
          have hgw : g < w2.heap.size := (Array.getElem?_eq_some_iff.1 HG2.out).1
          clear c2 hcut e0 er1
          refine wp_region_any (by kernel_rfl) ?_
          change wpAny _ _ _ _ _ _ _ w2.drew
          refine any_at (i := 0) 38 rfl rfl (by kernel_rfl) (by kernel_rfl) (by kernel_rfl) (fun _ _ _ h => h) (by rfl) (fun w => by go_simp; with_reducible rfl) ?_
          simp only [List.setIfInBounds_toArray, List.set_cons_zero, List.set_cons_succ]
          refine any_at (i := 1) 39 rfl rfl (by kernel_rfl) (by kernel_rfl) (by kernel_rfl) (fun _ _ _ h => h) (by rfl) (fun w => by go_simp; with_reducible rfl) ?_
          simp only [List.setIfInBounds_toArray, List.set_cons_zero, List.set_cons_succ]
          refine any_at (i := 2) 40 rfl rfl (by kernel_rfl) (by kernel_rfl) (by kernel_rfl) (fun _ _ _ h => h) (by rfl) (fun w => by go_simp; with_reducible rfl) ?_
          simp only [List.setIfInBounds_toArray, List.set_cons_zero, List.set_cons_succ]
          refine any_at (i := 3) 41 rfl rfl (by kernel_rfl) (by kernel_rfl) (by kernel_rfl) (fun _ _ _ h => h) (by rfl) (fun w => by go_simp; with_reducible rfl) ?_
          simp only [List.setIfInBounds_toArray, List.set_cons_zero, List.set_cons_succ]
          refine any_at (i := 5) 43 rfl rfl (by kernel_rfl) (by kernel_rfl) (by kernel_rfl) (fun _ _ _ h => h) (by rfl) (fun w => by go_simp; with_reducible rfl) ?_
          simp only [List.setIfInBounds_toArray, List.set_cons_zero, List.set_cons_succ]
          refine any_at (i := 6) 44 rfl rfl (by kernel_rfl) (by kernel_rfl) (by kernel_rfl) (fun _ _ _ h => h) (by rfl) (fun w => by go_simp; with_reducible rfl) ?_
          simp only [List.setIfInBounds_toArray, List.set_cons_zero, List.set_cons_succ]
          refine any_at (i := 7) 45 rfl rfl (by kernel_rfl) (by kernel_rfl) (by kernel_rfl) (fun _ _ _ h => h) (by rfl) (fun w => by go_simp; with_reducible rfl) ?_
          simp only [List.setIfInBounds_toArray, List.set_cons_zero, List.set_cons_succ]
          refine wpAny_ready (rs := [4, 8]) (by kernel_rfl) (by simp) ?_
          refine AllReady.cons rfl (fun K hK => ?_) (AllReady.cons rfl (fun K hK => ?_) AllReady.nil)
          · refine load_at 42 rfl (by rfl) 38 (.tmp 41) rfl g 0 rfl _ _ HR0.out Tryd.underlying38 rfl (by rw [rowL_length]; exact infoWords) ?_
            refine hK _ _ ?_
            clear hK K
            simp only [List.setIfInBounds_toArray, List.set_cons_zero, List.set_cons_succ]
            refine wpAny_ready (rs := [8]) (by kernel_rfl) (by simp) ?_
            refine AllReady.cons rfl (fun K hK => ?_) AllReady.nil
            refine load_at 46 rfl (by rfl) 40 (.tmp 45) rfl g 8 rfl _ _ HR1.out Tryd.underlying40 rfl (by rw [rowL_length]; exact infoBlock) ?_
            refine hK _ _ ?_
            clear hK K
            simp only [List.setIfInBounds_toArray, List.set_cons_zero, List.set_cons_succ]
            refine wpAny_ready (rs := [9]) (by kernel_rfl) (by simp) ?_
            refine AllReady.cons rfl (fun K hK => ?_) AllReady.nil
            go_simp
            go_at_call 19
            refine (compress_any (wordsF A (A.length / 64)) (over p r (D.take n)) _ HT2.out).mono ?_
            rintro e w3 ⟨rfl, hb3⟩
            have HG3 := Lib.hid ((hb3.block g hgw).trans HG2.out)
            have HB3 := Lib.hid hb3
            clear hb3
            go_wp2_with fail
            refine any_at (i := 10) 48 rfl rfl (by kernel_rfl) (by kernel_rfl) (by kernel_rfl) (fun _ _ _ h => h) (by rfl) (fun w => by go_simp; with_reducible rfl) ?_
            simp only [List.setIfInBounds_toArray, List.set_cons_zero, List.set_cons_succ]
            refine any_at (i := 11) 49 rfl rfl (by kernel_rfl) (by kernel_rfl) (by kernel_rfl) (fun _ _ _ h => h) (by rfl) (fun w => by go_simp; with_reducible rfl) ?_
            simp only [List.setIfInBounds_toArray, List.set_cons_zero, List.set_cons_succ]
            refine wpAny_ready (rs := [12]) (by kernel_rfl) (by simp) ?_
            refine AllReady.cons rfl (fun K hK => ?_) AllReady.nil
            rw [if_pos (by rfl)]
            refine wp_store_in 38 (.tmp 49) (.tmp 47) rfl rfl g 0 _ (rowL .u32 8 (compressed (wordsF A (A.length / 64)) (over p r (D.take n)))) _ HG3.out rfl rfl (by rw [rowL_length]; exact infoWords) (by rw [rowL_length, stC_length]; omega) (rowL_one _ _ _) ?_
            intro w4 hg4 hs4
            refine hK _ _ ?_
            clear hK K
            refine wpAny_done (by kernel_rfl) ?_ _
            rw [stC_words] at hg4
            have HG4 := Lib.hid hg4
            have HS4 := Lib.hid hs4
            clear hg4 hs4
            go_wp2
            obtain ⟨hn', hL1, hr1⟩ := HL.out
            obtain ⟨hD, hXl, had'⟩ := HD.out
            have hr := HR.out
            have hB : Below w2.heap.size w2 w3 := ⟨HB3.out.os, HB3.out.tape, HB3.out.output, HB3.out.size, HB3.out.block⟩
            obtain ⟨q1, q2⟩ := rest_has (w2 := w4) HC.out hap hn'.1 hcap had' (fun k hk hne => (HS4.out.block k hne).trans ((hB.block k (by rw [HW2.out.1.size]; exact hk)).trans (HW2.out.1.block k hne)))
            refine ⟨⟨A ++ D.take n, D.drop n, hD, ?_, q1, q2, (HW2.out.2.more hB).solo HS4.out⟩, by simp; omega⟩
            subst hr
            refine holds_full (q := over p (A.length % 64) (D.take n)) HP.out (by omega) ?_
            rw [List.length_append, hXl, ← hL1]
            exact HG4.out
          · refine load_at 46 rfl (by rfl) 40 (.tmp 45) rfl g 8 rfl _ _ HR1.out Tryd.underlying40 rfl (by rw [rowL_length]; exact infoBlock) ?_
            refine hK _ _ ?_
            clear hK K
            simp only [List.setIfInBounds_toArray, List.set_cons_zero, List.set_cons_succ]
            refine wpAny_ready (rs := [4]) (by kernel_rfl) (by simp) ?_
            refine AllReady.cons rfl (fun K hK => ?_) AllReady.nil
            refine load_at 42 rfl (by rfl) 38 (.tmp 41) rfl g 0 rfl _ _ HR0.out Tryd.underlying38 rfl (by rw [rowL_length]; exact infoWords) ?_
            refine hK _ _ ?_
            clear hK K
            simp only [List.setIfInBounds_toArray, List.set_cons_zero, List.set_cons_succ]
            refine wpAny_ready (rs := [9]) (by kernel_rfl) (by simp) ?_
            refine AllReady.cons rfl (fun K hK => ?_) AllReady.nil
            go_simp
            go_at_call 19
            refine (compress_any (wordsF A (A.length / 64)) (over p r (D.take n)) _ HT2.out).mono ?_
            rintro e w3 ⟨rfl, hb3⟩
            have HG3 := Lib.hid ((hb3.block g hgw).trans HG2.out)
            have HB3 := Lib.hid hb3
            clear hb3
            go_wp2_with fail
            refine any_at (i := 10) 48 rfl rfl (by kernel_rfl) (by kernel_rfl) (by kernel_rfl) (fun _ _ _ h => h) (by rfl) (fun w => by go_simp; with_reducible rfl) ?_
            simp only [List.setIfInBounds_toArray, List.set_cons_zero, List.set_cons_succ]
            refine any_at (i := 11) 49 rfl rfl (by kernel_rfl) (by kernel_rfl) (by kernel_rfl) (fun _ _ _ h => h) (by rfl) (fun w => by go_simp; with_reducible rfl) ?_
            simp only [List.setIfInBounds_toArray, List.set_cons_zero, List.set_cons_succ]
            refine wpAny_ready (rs := [12]) (by kernel_rfl) (by simp) ?_
            refine AllReady.cons rfl (fun K hK => ?_) AllReady.nil
            rw [if_pos (by rfl)]
            refine wp_store_in 38 (.tmp 49) (.tmp 47) rfl rfl g 0 _ (rowL .u32 8 (compressed (wordsF A (A.length / 64)) (over p r (D.take n)))) _ HG3.out rfl rfl (by rw [rowL_length]; exact infoWords) (by rw [rowL_length, stC_length]; omega) (rowL_one _ _ _) ?_
            intro w4 hg4 hs4
            refine hK _ _ ?_
            clear hK K
            refine wpAny_done (by kernel_rfl) ?_ _
            rw [stC_words] at hg4
            have HG4 := Lib.hid hg4
            have HS4 := Lib.hid hs4
            clear hg4 hs4
            go_wp2
            obtain ⟨hn', hL1, hr1⟩ := HL.out
            obtain ⟨hD, hXl, had'⟩ := HD.out
            have hr := HR.out
            have hB : Below w2.heap.size w2 w3 := ⟨HB3.out.os, HB3.out.tape, HB3.out.output, HB3.out.size, HB3.out.block⟩
            obtain ⟨q1, q2⟩ := rest_has (w2 := w4) HC.out hap hn'.1 hcap had' (fun k hk hne => (HS4.out.block k hne).trans ((hB.block k (by rw [HW2.out.1.size]; exact hk)).trans (HW2.out.1.block k hne)))
            refine ⟨⟨A ++ D.take n, D.drop n, hD, ?_, q1, q2, (HW2.out.2.more hB).solo HS4.out⟩, by simp; omega⟩
            subst hr
            refine holds_full (q := over p (A.length % 64) (D.take n)) HP.out (by omega) ?_
            rw [List.length_append, hXl, ← hL1]
            exact HG4.out
        · rename_i h0
          have h0 : r1 ≠ 0 := by simpa using h0
          obtain ⟨hn', hL1, hr1⟩ := HL.out
          obtain ⟨hD, hXl, had'⟩ := HD.out
          have hr := HR.out
          obtain ⟨q1, q2⟩ := rest_has (w2 := w2) HC.out hap hn'.1 hcap had' (fun k _ hne => HW2.out.1.block k hne)
          refine ⟨⟨A ++ D.take n, D.drop n, hD, ?_, q1, q2, HW2.out.2⟩, by simp; omega⟩
          subst hr
          refine holds_part HP.out (by omega) ?_
          rw [List.length_append, hXl, ← hL1]
          exact HG2.out
end Go.Proofs.YtnfklikphkkpoaaDoor
