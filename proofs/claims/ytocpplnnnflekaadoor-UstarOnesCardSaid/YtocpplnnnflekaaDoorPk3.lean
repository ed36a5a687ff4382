/-
Texts that all claims of this seat share, part 3: Ref08Get, HeaderFace, UstarFace, Law07Sums, Law07Turned, OctalGet, OctalPut, UstarSmall, OctalCheck, OctalText, OctalCode.
-/
import Derived.Lib.SlBytesConst
import Derived.Deep.DeepCutAuto
import Derived.Laws.BitsLemmas
import Derived.Test.YtocpplnnnflekaaDoorShelf
import Derived.OwnWalk
import Derived.Lib.IndexLaws
import Derived.Lib.BufferWrite
import Derived.Maps.OwnSet
import Derived.StillTailTactics
import Derived.Test.YtocpplnnnflekaaDoorPk2
namespace Go.Proofs.YtocpplnnnflekaaDoor
open Go.RowKit
set_option maxRecDepth 100000 in
/-- A part of a slice of bytes, as an operation. -/
theorem cut_both {P : Program} {t e : TypeId} (ht : P.underlying t = some (.slice e)) (he : (P.info? e).map (·.size) = some 1) (ad : Addr) (len cap lo hi : Nat) (h1 : lo ≤ hi) (h2 : hi ≤ cap) (h3 : lo < cap) :
    ∀ w, (Instr.sliceAt t (.slice (some ad) len cap) (some (.int .i64 (lo : Int))) (some (.int .i64 (hi : Int))) none).run P w = .ok (.slice (some (ad.add lo)) (hi - lo) (cap - lo)) w := fun w => by
  have hel : P.elem t = e := by simp [Program.elem, ht]
  obtain ⟨inf, hinf, hs⟩ : ∃ inf, P.info? e = some inf ∧ inf.size = 1 := by
    cases h : P.info? e with
    | none => simp [h] at he
    | some i => exact ⟨i, rfl, by simpa [h] using he⟩
  have hce : P.cellsOf e = 1 := by simp [Program.cellsOf, hinf, hs]
  have hsl : P.underlying t = some (.slice (P.elem t)) := by rw [hel]; exact ht
  rw [run_sliceAt_slice _ _ _ _ _ _ hsl, run_slice_lh _ _ _ _ _ hsl _ _ _ _ (by omega) (by omega) (by omega), hel, run_sizeOf w hinf, hce]
  have h : cap ≠ lo := by omega
  simp [sliced, h]
/-- How far a walk through bytes has come: the files that it has got, and what of the bytes is left. -/
def Inv8 (b : List UInt8) (a : Nat) (acc : List F8) : Prop := ∃ fu, (b.drop a).length < fu ∧ rawU b = (parseU fu (b.drop a)).map (acc ++ ·)
set_option maxRecDepth 100000 in
theorem inv8_start (b : List UInt8) : Inv8 b 0 [] := ⟨b.length + 1, by simp, by simp [rawU]⟩
set_option maxRecDepth 100000 in
theorem head_at (b : List UInt8) (a : Nat) : (b.drop a).take 512 = (b.take (a + 512)).drop a := by rw [List.drop_take]; congr 1; omega
set_option maxRecDepth 100000 in
theorem inv8_end {b : List UInt8} {a : Nat} {acc : List F8} (h : Inv8 b a acc) (he : ¬ a + 1024 < b.length) : rawU b = some acc := by
  obtain ⟨fu, h1, h2⟩ := h
  obtain ⟨fu, rfl⟩ : ∃ k, fu = k + 1 := ⟨fu - 1, by omega⟩
  rw [h2, parseU, if_pos (by rw [List.length_drop]; omega)]; simp
set_option maxRecDepth 100000 in
theorem inv8_bad {b : List UInt8} {a : Nat} {acc : List F8} (h : Inv8 b a acc) (hl : a + 1024 < b.length) (hb : ¬ (getHErr ((b.take (a + 512)).drop a) = 0 ∧ (a + 512 : Nat) + getHSize ((b.take (a + 512)).drop a) ≤ (b.length : Int))) : rawU b = none := by
  obtain ⟨fu, h1, h2⟩ := h
  obtain ⟨fu, rfl⟩ : ∃ k, fu = k + 1 := ⟨fu - 1, by omega⟩
  rw [h2, parseU, if_neg (by rw [List.length_drop]; omega), head_at, if_neg]
  · rfl
  · rw [List.length_drop]; intro h'; exact hb ⟨h'.1, by have := h'.2; omega⟩
set_option maxRecDepth 100000 in
theorem inv8_next {b : List UInt8} {a s : Nat} {acc : List F8} (h : Inv8 b a acc) (hl : a + 1024 < b.length) (h0 : getHErr ((b.take (a + 512)).drop a) = 0) (hs : getHSize ((b.take (a + 512)).drop a) = (s : Int)) (hf : a + 512 + s ≤ b.length) :
    Inv8 b (a + 512 + (s + padN s)) (acc ++ [(getHPath ((b.take (a + 512)).drop a), (b.take (a + 512 + s)).drop (a + 512))]) := by
  obtain ⟨fu, h1, h2⟩ := h
  obtain ⟨fu, rfl⟩ : ∃ k, fu = k + 1 := ⟨fu - 1, by omega⟩
  rw [List.length_drop] at h1
  refine ⟨fu, by rw [List.length_drop]; omega, ?_⟩
  have hr : (roundZ (s : Int)).toNat = s + padN s := by rw [padN_round]; omega
  have hd : (b.drop a).drop (512 + (s + padN s)) = b.drop (a + 512 + (s + padN s)) := by rw [List.drop_drop]; congr 1; omega
  have hm : ((b.drop a).take (512 + s)).drop 512 = (b.take (a + 512 + s)).drop (a + 512) := by
    rw [List.drop_take, List.drop_drop, List.drop_take, show 512 + s - 512 = s from by omega, show a + 512 + s - (a + 512) = s from by omega]
  rw [h2, parseU, if_neg (by rw [List.length_drop]; omega), head_at, hs, if_pos ⟨h0, by rw [List.length_drop]; omega⟩, hr, hd, Int.toNat_natCast, hm]
  cases parseU fu (b.drop (a + 512 + (s + padN s))) <;> simp
set_option maxRecDepth 100000 in
theorem getU_none {b : List UInt8} (h : rawU b = none) : getUErr b = 2 ∧ getU b = [] := by
  have : isU b = false := by rw [isU, h]
  exact ⟨by rw [getUErr, this]; rfl, by rw [getU, h]⟩
set_option maxRecDepth 100000 in
theorem getU_some {b : List UInt8} {l : List F8} (h : rawU b = some l) (h1 : putUErr l = 0) (h2 : (putU l == b) = true) : getUErr b = 0 ∧ getU b = l := by
  have : isU b = true := by rw [isU, h]; simp only; rw [h1, h2]; rfl
  exact ⟨by rw [getUErr, this]; rfl, by rw [getU, h]; simp only; rw [this]; rfl⟩
set_option maxRecDepth 100000 in
theorem getU_not {b : List UInt8} {l : List F8} (h : rawU b = some l) (h1 : putUErr l ≠ 0 ∨ (putU l == b) = false) : getUErr b = 2 ∧ getU b = [] := by
  have : isU b = false := by
    rw [isU, h]; simp only
    rcases h1 with h1 | h1
    · rw [beq_eq_false_iff_ne.2 h1]; rfl
    · rw [h1, Bool.and_false]
  exact ⟨by rw [getUErr, this]; rfl, by rw [getU, h]; simp only; rw [this]; rfl⟩
set_option maxRecDepth 100000 in
/-- One file appended to a slice of files of the call's own. -/
theorem append_file {P : Program} {w : World} {ops : Array Oper} {rest : List Oper} {o : Oper} {a : Act} {Q : Exit → Act → World → Prop} (hgd : o.guard = none) (s x : Operand) (t : TypeId)
    (ho : o.op = .call { callee := .builtin .append, args := #[s, x], argTypes := #[t, t] })
    (base : Nat) (e : TypeId) (i : TypeInfo) (ht : P.underlying t = some (.slice e)) (hi : P.info? e = some i) (hz : (i.zero.map (·.cells.size), i.size, i.bytes) = (some 2, 2, 40))
    (v : Value) (us : List (F8 × Value)) (f : F8 × Value) (hs : a.eval s = v) (hown : w.ownsRow base e 2 v us.length (filesC us)) (ad : Addr) (c : Nat) (hx : a.eval x = .slice (some ad) 1 c)
    (hc : w.cell? ad = some (.string (str f.1.1)) ∧ w.cell? (ad.add 1) = some f.2) (hone : f.2.oneCell' = true)
    (hlen : us.length + 1 ≤ 1000000) (hbase : base ≤ w.heap.size)
    (h : ∀ v' w', w'.ownsRow base e 2 v' (us ++ [f]).length (filesC (us ++ [f])) → w.grownBy w' v.ownBlock → wpList P ops Q rest (a.put o.dst v') w') : wpList P ops Q (o :: rest) a w := by
  have hadd : ad.add 0 = ad := by unfold Addr.add; split <;> simp_all
  simp only [Prod.mk.injEq] at hz
  obtain ⟨hz1, hz2, hz3⟩ := hz
  cases hzz : i.zero with
  | none => rw [hzz] at hz1; cases hz1
  | some z =>
    rw [hzz] at hz1
    simp only [Option.map_some, Option.some.injEq] at hz1
    refine wpList_append_own w hgd s x t ho base e i z 2 40 ht hi hzz hz2 hz3 hz1 (by decide) v us.length (filesC us) hs hown ad 1 c (filesC [f]) hx rfl (fun j u hj => ?_) (fun u hu => ?_)
      (by unfold maxLen; omega) (by omega) hbase fun v' w' h1 h2 _ => h v' w' (by rw [filesC_append, List.length_append]; exact h1) h2
    · match j, hj with
      | 0, hj => rw [hadd, hc.1]; exact hj
      | 1, hj => rw [hc.2]; exact hj
    · simp only [filesC, List.mem_cons, List.not_mem_nil, or_false] at hu
      rcases hu with rfl | rfl
      · rfl
      · exact hone
set_option maxRecDepth 100000 in
theorem files_of_own {w : World} {base : Nat} {e : TypeId} {v : Value} {us : List (F8 × Value)} (h : w.ownsRow base e 2 v us.length (filesC us)) (ht : ∀ x ∈ us, HasText w x.2 x.1.2) : HasFiles w v (us.map (·.1)) := by
  rcases h.2 with ⟨rfl, h0⟩ | ⟨g, cap, cur, rfl, rest⟩
  · obtain rfl : us = [] := List.eq_nil_of_length_eq_zero h0
    exact files_nil w
  · exact ⟨us, rfl, ht, some ⟨g, 0, none⟩, cap, rfl, (fun h => by cases h), fun ad had => ⟨rest.2.2.1, fun j u hu => by
      cases had; exact h.cells rfl j u hu⟩⟩
set_option maxRecDepth 100000 in
theorem path_le {h : List UInt8} (h0 : getHErr h = 0) : (getHPath h).length ≤ 256 ∧ 0 ≤ getHSize h ∧ getHSize h ≤ 4194304 := by
  refine ⟨?_, ((putHErr_ok _ _).1 (put_getH h0).1).2⟩
  rw [getHPath, if_pos h0]
  exact rawPath_le h (by rw [getH_len h0]; exact Nat.le_refl _)
set_option maxRecDepth 100000 in
theorem built_file (p : ByteArray) (ao : Option Addr) (n c : Nat) : Tryd.prog.built 33 [(0, .string p), (1, .slice ao n c)] = some #[.string p, .slice ao n c] := by rfl
set_option maxRecDepth 100000 in
theorem info_file : (Tryd.prog.info? 33).map (fun i => (i.zero.map (·.cells.size), i.size, i.bytes)) = some (some 2, 2, 40) := by kernel_rfl
set_option maxRecDepth 100000 in
theorem get_wraps (a s R : Nat) (h : a ≤ 130000) (hs : s ≤ 130000) (hR : R ≤ 140000) : wrap64 ((a : Int) + 1024) = ((a + 1024 : Nat) : Int) ∧ wrap64 ((a : Int) + 512) = ((a + 512 : Nat) : Int) ∧ wrap64 (((a + 512 : Nat) : Int) + (s : Int)) = ((a + 512 + s : Nat) : Int) ∧ wrap64 (((a + 512 : Nat) : Int) + (R : Int)) = ((a + 512 + R : Nat) : Int) := by
  refine ⟨?_, ?_, ?_, ?_⟩ <;> rw [wrap64] <;> omega
set_option maxRecDepth 100000 in
theorem totalB_one (l : List F8) (f : F8) : totalB (l ++ [f]) = totalB l + f.2.length := by rw [totalB_append]; simp [totalB]
set_option maxRecDepth 100000 in
set_option maxHeartbeats 8000000 in
theorem refGet8_any (w : World) (v : Value) (b : List UInt8) (hv : HasText w v b) (hl : b.length ≤ 60000) :
    Calls Tryd.prog 17 #[v] w fun e w' => ∃ x, e = .returned (.tuple #[x, .int .i64 (getUErr b)]) ∧ HasFiles w' x (getU b) ∧ Below w.heap.size w w' := by
  obtain ⟨i0, hi, hz⟩ : ∃ i0, Tryd.prog.info? 33 = some i0 ∧ (i0.zero.map (·.cells.size), i0.size, i0.bytes) = (some 2, 2, 40) := by
    cases h : Tryd.prog.info? 33 with
    | none => have := info_file; rw [h] at this; cases this
    | some i => exact ⟨i, rfl, by have := info_file; rw [h] at this; simpa using this⟩
  obtain ⟨n, hn⟩ : ∃ n, n = b.length := ⟨_, rfl⟩
  obtain ⟨ao, cap, rfl⟩ := text_len hv n hn.symm
  have HV := Lib.hid hv
  have HN := Lib.hid hn
  rw [← hn] at hl
  have HL := Lib.hid hl
  clear hn hv hl
  go_enter Tryd.func17, Tryd.ntmps17
  go_wp2
  go_loopw [4, 5] (fun vl i wr => ∃ (a : Nat) (us : List (F8 × Value)), i = .int .i64 a ∧ wr.ownsRow w.heap.size 33 2 vl us.length (filesC us) ∧ Below w.heap.size w wr ∧
    Inv8 b a (us.map (·.1)) ∧ (∀ x ∈ us, HasText w x.2 x.1.2 ∧ x.1.1.length ≤ 256) ∧ a ≤ 130000 ∧ us.length * 512 ≤ a ∧ us.length ≤ 120 ∧ totalB (us.map (·.1)) ≤ a ∧ totalB (us.map (·.1)) ≤ 60000) (fun _ i _ => n - (intOf i).toNat)
  case atStart => exact ⟨0, [], rfl, ⟨rfl, .inl ⟨rfl, rfl⟩⟩, Below.refl _ _, inv8_start b, (fun x h => by cases h), by omega, by simp, by simp, by simp [totalB], by simp [totalB]⟩
  case round =>
    obtain ⟨a, us, rfl, ho, hb, hinv, hus, ha, hu1, hu2, ht1, ht2⟩ := hrel
    have HB := Lib.hid hb
    have HO := Lib.hid ho
    have HI := Lib.hid hinv
    have HU := Lib.hid hus
    have HQ := Lib.hid (And.intro ha (And.intro hu1 (And.intro hu2 (And.intro ht1 ht2))))
    obtain ⟨vo, vcap, rfl⟩ := own_slice ho
    clear hb ho hinv hus hu1 hu2 ht1 ht2
    by_cases hlt : a + 1024 < n
    · obtain ⟨ad, hao⟩ : ∃ ad, ao = some ad := by
        obtain ⟨ad, cap', e, -⟩ := text_pos HV.out n 0 HN.out.symm (by omega) _ rfl
        cases e; exact ⟨ad, rfl⟩
      subst hao
      have hcap := (text_cap HV.out).2
      have HC := Lib.hid (And.intro hlt hcap)
      have TM := Lib.hid (text_mid HV.out a (a + 512) (by omega) (by rw [← HN.out]; omega))
      rw [Nat.add_sub_cancel_left] at TM
      have s1 := cut_both (P := Tryd.prog) Tryd.underlying25 (e := 5) (by kernel_rfl) ad n cap a (a + 512) (by omega) (by omega) (by omega)
      rw [Nat.add_sub_cancel_left] at s1
      obtain ⟨h, hh⟩ : ∃ h, h = (b.take (a + 512)).drop a := ⟨_, rfl⟩
      rw [← hh] at TM
      have G1 := Lib.hid (fun w hv => refGet7_any h (by rw [hh, List.length_drop, List.length_take]; omega) (.slice (some (ad.add a)) 512 (cap - a)) w hv)
      have HH := Lib.hid hh
      obtain ⟨ew1, ew2, -, -⟩ := get_wraps a 0 0 ha (by omega) (by omega)
      obtain ⟨a1, ha1⟩ : ∃ a1, a1 = a + 1024 := ⟨_, rfl⟩
      obtain ⟨a5, ha5⟩ : ∃ a5, a5 = a + 512 := ⟨_, rfl⟩
      rw [← ha1] at ew1
      rw [← ha5] at ew2 s1
      have q0 : (a1 : Int) < (n : Int) := by rw [ha1]; clear ew1 ew2; omega
      have HA := Lib.hid (And.intro ha1 ha5)
      clear hh ha1 ha5 hcap ha hlt
      go_upto_region 5 with (first | (go_at_call 29; refine (G1.out _ (text_keep TM.out HB.out)).mono ?_; rintro e w3 ⟨rfl, hb3⟩; have HB3 := Lib.hid (below_next HB.out hb3); have HO3 := Lib.hid (own_below HO.out hb3); clear hb3))
      by_cases hE : getHErr h = 0
      · obtain ⟨hp256, hs0, hs1⟩ := path_le hE
        obtain ⟨s, hs⟩ : ∃ s : Nat, getHSize h = (s : Int) := ⟨(getHSize h).toNat, by clear ew1 ew2; omega⟩
        obtain ⟨p, hp⟩ : ∃ p, getHPath h = p := ⟨_, rfl⟩
        rw [hp] at hp256
        rw [hE, hs, hp]
        have hs2 : s ≤ 4194304 := by clear ew1 ew2; omega
        obtain ⟨a6, ha6⟩ : ∃ a6, a6 = a5 + s := ⟨_, rfl⟩
        have ew3 : wrap64 ((a5 : Int) + (s : Int)) = (a6 : Int) := by rw [wrap64]; have := HA.out; have := HQ.out.1; clear ew1 ew2; omega
        have HE := Lib.hid (And.intro hE (And.intro hs (And.intro hp hp256)))
        have HA6 := Lib.hid ha6
        clear hE hs hp hp256 hs0 hs1 ha6
        by_cases hfit : a6 ≤ n
        · have hbytes : s ≤ 60000 ∧ a5 + s ≤ n ∧ a5 < cap := by have h1 := HA6.out; have h2 := HL.out; have h3 := HC.out; have h4 := HA.out; clear ew1 ew2 ew3; omega
          have d1 : (a6 : Int) ≤ (n : Int) := by clear ew1 ew2 ew3; omega
          have s2 := cut_both (P := Tryd.prog) Tryd.underlying25 (e := 5) (by kernel_rfl) ad n cap a5 a6 (by have := HA6.out; omega) (by have := HC.out.2; omega) hbytes.2.2
          rw [show a6 - a5 = s by have := HA6.out; omega] at s2
          have TD := Lib.hid (text_mid HV.out a5 a6 (by have := HA6.out; clear ew1 ew2 ew3 d1; omega) (by rw [← HN.out]; exact hfit))
          rw [show a6 - a5 = s by have := HA6.out; omega] at TD
          obtain ⟨d, hd⟩ : ∃ d, (b.take a6).drop a5 = d := ⟨_, rfl⟩
          rw [hd] at TD
          obtain ⟨R, hR⟩ : ∃ R : Nat, R = s + padN s := ⟨_, rfl⟩
          have hR2 : R ≤ 61000 := by have : padN s < 512 := Nat.mod_lt _ (by decide); have := hbytes.1; clear ew1 ew2 ew3 d1; omega
          have R1 := Lib.hid (fun w => refRound_any (s : Int) (by have := hbytes.1; clear ew1 ew2 ew3 d1; omega) w)
          rw [padN_round, ← hR] at R1
          obtain ⟨a7, ha7⟩ : ∃ a7, a7 = a5 + R := ⟨_, rfl⟩
          have ew4 : wrap64 ((a5 : Int) + (R : Int)) = (a7 : Int) := by rw [wrap64]; have := HA.out; have := HQ.out.1; clear ew1 ew2 ew3 d1; omega
          have HN8 := Lib.hid (show Inv8 b a7 (us.map (·.1) ++ [(p, d)]) by
            have h1 := HA.out
            have h2 := HA6.out
            have h3 := inv8_next HI.out (s := s) (by rw [← HN.out]; exact HC.out.1) (by rw [← HH.out]; exact HE.out.1) (by rw [← HH.out]; exact HE.out.2.1) (by rw [← HN.out]; clear ew1 ew2 ew3 ew4 d1; omega)
            rw [← HH.out, HE.out.2.2.1, show (b.take (a + 512 + s)).drop (a + 512) = d by rw [← hd, h2, h1.2], show a + 512 + (s + padN s) = a7 by rw [ha7, h1.2, hR]] at h3
            exact h3)
          have hdl : d.length = s := by rw [← hd, List.length_drop, List.length_take, ← HN.out]; have := HA6.out; clear ew1 ew2 ew3 ew4 d1; omega
          have HB7 := Lib.hid (And.intro ha7 (And.intro hR (And.intro hdl (And.intro hfit (And.intro hbytes hs2)))))
          clear ha7 hR hR2 hdl hd hfit hbytes hs2
          go_upto_region 7 with fail
          go_upto_region 8 with (first
            | (refine build_on (by rfl) 33 #[(0, .tmp 38), (1, .tmp 46)] rfl _ _ (built_file _ _ _ _) (by simp [Act.eval]) ?_)
            | (at_builtin; refine append_file rfl (.tmp 37) (.tmp 48) 22 rfl w.heap.size 33 i0 Tryd.underlying22 hi hz (.slice vo us.length vcap) us ((p, d), .slice (some (ad.add a5)) s (cap - a5)) rfl (HO3.out.alloc _) ⟨w3.heap.size, 0, none⟩ 1 rfl ⟨by rw [cell_of_row _ _ 0 _ _ _ (heap_last w3 _)]; rfl, by rw [Addr.add_lit, cell_of_row _ _ (0 + 1) _ _ _ (heap_last w3 _)]; rfl⟩ rfl (by have := HQ.out.2.2.1; omega) (by have := HB3.out.size; simp; omega) ?_; intro v9 w9 ho hg; have HO9 := Lib.hid ho; have HB9 := Lib.hid (below_grown (HB3.out.alloc HB3.out.size _) hg (by have := HB3.out.size; simp; omega) (fun j hj => (HO3.out.lt j hj).1)); clear ho hg))
          go_wp2_with (first | (go_at_call 25; refine (R1.out _).mono ?_; rintro e w' ⟨rfl, rfl⟩))
          go_roundw
          case rel =>
            have h1 := HB7.out
            have h2 := HA.out
            have h3 := HQ.out
            have h4 := HC.out
            have h5 := HA6.out
            have h6 := HL.out
            have hpd : padN s < 512 := Nat.mod_lt _ (by decide)
            have hm : (us ++ [((p, d), Value.slice (some (ad.add a5)) s (cap - a5))]).map (·.1) = us.map (·.1) ++ [(p, d)] := by rw [List.map_append]; rfl
            refine ⟨a7, us ++ [((p, d), .slice (some (ad.add a5)) s (cap - a5))], ?_, HO9.out, HB9.out, by rw [hm]; exact HN8.out, fun x hx => ?_, ?_, ?_, ?_, ?_, ?_⟩
            · rw [ew4]
            · rcases List.mem_append.1 hx with hx | hx
              · exact HU.out x hx
              · rw [List.mem_singleton] at hx; subst hx; exact ⟨TD.out, HE.out.2.2.2⟩
            · clear ew1 ew2 ew3 ew4; omega
            · rw [List.length_append, List.length_singleton]; clear ew1 ew2 ew3 ew4; omega
            · rw [List.length_append, List.length_singleton]; clear ew1 ew2 ew3 ew4; omega
            · rw [hm, totalB_one]; clear ew1 ew2 ew3 ew4; show _ + d.length ≤ _; omega
            · rw [hm, totalB_one]; clear ew1 ew2 ew3 ew4; show _ + d.length ≤ _; omega
          case measure =>
            rw [ew4]
            have h1 := HB7.out.1
            have h2 := HA.out
            have h4 := HC.out
            clear ew1 ew2 ew3 ew4
            simp only [intOf, Int.toNat_natCast]
            omega
        · have d1 : (a6 : Int) > (n : Int) := by clear ew1 ew2 ew3; omega
          have HG := Lib.hid (getU_none (inv8_bad HI.out (by rw [← HN.out]; exact HC.out.1) (fun h' => by
            have h2 := h'.2
            rw [← HH.out, HE.out.2.1, ← HN.out] at h2
            have h3 := HA.out
            have h4 := HA6.out
            clear ew1 ew2 ew3
            omega)))
          clear hfit
          go_wp2
          go_ret2
          exact ⟨_, by rw [HG.out.1]; rfl, by rw [HG.out.2]; exact files_nil _, HB3.out⟩
      · have HG := Lib.hid (getU_none (inv8_bad HI.out (by rw [← HN.out]; exact HC.out.1) (fun h' => hE (by rw [HH.out]; exact h'.1))))
        have tE : (getHErr h != 0) = true := bne_iff_ne.2 hE
        generalize getHErr h = E at *
        generalize getHPath h = p at *
        generalize getHSize h = s at *
        clear hE
        go_wp2
        go_ret2
        exact ⟨_, by rw [HG.out.1]; rfl, by rw [HG.out.2]; exact files_nil _, HB3.out⟩
    · obtain ⟨ew1, -, -, -⟩ := get_wraps a 0 0 ha (by omega) (by omega)
      obtain ⟨a1, ha1⟩ : ∃ a1, a1 = a + 1024 := ⟨_, rfl⟩
      rw [← ha1] at ew1
      have q0 : ¬ (a1 : Int) < (n : Int) := by rw [ha1]; clear ew1; omega
      obtain ⟨L, hL⟩ : ∃ L, us.map (·.1) = L := ⟨_, rfl⟩
      have hraw := inv8_end HI.out (by rw [← HN.out]; exact hlt)
      have HFL := Lib.hid (show HasFiles wr (.slice vo us.length vcap) L from by rw [← hL]; exact files_of_own HO.out (fun x hx => text_keep (HU.out x hx).1 HB.out))
      have HLL := Lib.hid (And.intro (show L.length ≤ 200 by rw [← hL, List.length_map]; have := HQ.out.2.2.1; omega) (And.intro (show totalB L ≤ 60000 by rw [← hL]; exact HQ.out.2.2.2.2) (show ∀ f ∈ L, f.1.length < 4611686018427387904 from fun f hf => by
        rw [← hL] at hf
        obtain ⟨x, hx, rfl⟩ := List.mem_map.1 hf
        have := (HU.out x hx).2
        omega)))
      rw [hL] at hraw
      have P1 := Lib.hid (refPut8_any wr (.slice vo us.length vcap) L HFL.out HLL.out.2.2 HLL.out.1 HLL.out.2.1)
      have HW := Lib.hid hraw
      have hlb : (str b).toList = b := str_toList _
      have hlX : (str (putU L)).toList = putU L := str_toList _
      clear ha1 hlt ha hraw hL
      obtain ⟨X, hX⟩ : ∃ X, putU L = X := ⟨_, rfl⟩
      obtain ⟨E, hE⟩ : ∃ E, putUErr L = E := ⟨_, rfl⟩
      have HX := Lib.hid (And.intro hX hE)
      rw [hX, hE] at P1
      rw [hX] at hlX
      clear hX hE
      by_cases h0 : E = 0
      · subst h0
        cases hxb : (X == b) with
        | true =>
          have HG := Lib.hid (getU_some HW.out HX.out.2 (by rw [HX.out.1]; exact hxb))
          go_wp2_with (first | (go_at_call 13; refine P1.out.mono ?_; rintro e w2 ⟨x, rfl, hx, hb⟩; have HB2 := Lib.hid hb; have cv1 := conv_text Tryd.underlying25 Tryd.underlying5 Tryd.underlying9 hx; have cv2 := conv_text Tryd.underlying25 Tryd.underlying5 Tryd.underlying9 (text_keep HV.out (below_next HB.out hb)); clear hx hb))
          go_ret2
          exact ⟨_, by rw [HG.out.1]; rfl, by rw [HG.out.2]; exact files_below HFL.out HB2.out, below_next HB.out HB2.out⟩
        | false =>
          have HG := Lib.hid (getU_not HW.out (.inr (by rw [HX.out.1]; exact hxb)))
          go_wp2_with (first | (go_at_call 13; refine P1.out.mono ?_; rintro e w2 ⟨x, rfl, hx, hb⟩; have HB2 := Lib.hid hb; have cv1 := conv_text Tryd.underlying25 Tryd.underlying5 Tryd.underlying9 hx; have cv2 := conv_text Tryd.underlying25 Tryd.underlying5 Tryd.underlying9 (text_keep HV.out (below_next HB.out hb)); clear hx hb))
          go_ret2
          exact ⟨_, by rw [HG.out.1]; rfl, by rw [HG.out.2]; exact files_nil _, below_next HB.out HB2.out⟩
      · have HG := Lib.hid (getU_not HW.out (.inl (by rw [HX.out.2]; exact h0)))
        have tE : (E != 0) = true := bne_iff_ne.2 h0
        clear h0
        go_wp2_with (first | (go_at_call 13; refine P1.out.mono ?_; rintro e w2 ⟨x, rfl, hx, hb⟩; have HB2 := Lib.hid hb; clear hx hb))
        go_ret2
        exact ⟨_, by rw [HG.out.1]; rfl, by rw [HG.out.2]; exact files_nil _, below_next HB.out HB2.out⟩
end Go.Proofs.YtocpplnnnflekaaDoor
namespace Go.Proofs.YtocpplnnnflekaaDoor
open Go.RowKit
/-- A slice of bytes that may be written: its block lies behind what was there, and no byte of it bears a mark. -/
def OwnText (w : World) (base : Nat) (v : Value) (l : List UInt8) : Prop :=
  HasText w v l ∧ ∀ ad n cap, v = .slice (some ad) n cap → base ≤ ad.block ∧ ad.spot = none ∧ ∀ k, k < l.length → w.frozen? (ad.add k) = false
structure HeaderFace : Prop where
  put : ∀ w (p : List UInt8) (n : Int), p.length < 1152921504606846976 → -9223372036854775808 ≤ n → n < 9223372036854775808 → Calls Tryd.prog 21 #[.string (str p), .int .i64 n] w fun e w' => ∃ v, e = .returned (.tuple #[v, .int .i64 (putHErr p n)]) ∧ OwnText w' w.heap.size v (putH p n) ∧ Below w.heap.size w w'
  get : ∀ w v (b : List UInt8), b.length < 4611686018427387904 → HasText w v b → Calls Tryd.prog 27 #[v] w fun e w' => e = .returned (.tuple #[.string (str (getHPath b)), .int .i64 (getHSize b), .int .i64 (getHErr b)]) ∧ Below w.heap.size w w'
end Go.Proofs.YtocpplnnnflekaaDoor
namespace Go.Proofs.YtocpplnnnflekaaDoor
open Go.RowKit
/-- Numbers as the cells of a slice. -/
def intsC (zs : List Int) : List Value := zs.map fun z => Value.int .i64 z
/-- A slice value whose elements are these numbers. -/
def HasInts (w : World) (v : Value) (zs : List Int) : Prop :=
  ∃ ao cap, v = .slice ao zs.length cap ∧ (ao = none → zs = [] ∧ cap = 0) ∧ ∀ ad, ao = some ad → zs.length ≤ cap ∧ ∀ j u, (intsC zs)[j]? = some u → w.cell? (ad.add j) = some u
set_option maxRecDepth 100000 in
theorem ints_below {w w' : World} {v : Value} {zs : List Int} (h : HasInts w v zs) (hb : Below w.heap.size w w') : HasInts w' v zs := by
  obtain ⟨ao, cap, rfl, hnil, hc⟩ := h
  refine ⟨ao, cap, rfl, hnil, fun ad had => ⟨(hc ad had).1, fun j u hu => ?_⟩⟩
  have h1 := (hc ad had).2 j u hu
  exact (World.cell?_of_block (hb.block (ad.add j).block (World.block_lt_of_cell? w _ h1))).trans h1
set_option maxRecDepth 100000 in
theorem ints_of_own {w : World} {base : Nat} {e : TypeId} {v : Value} {zs : List Int} (h : w.ownsRow base e 1 v zs.length (intsC zs)) : HasInts w v zs := by
  rcases h.2 with ⟨rfl, h0⟩ | ⟨g, cap, cur, rfl, rest⟩
  · obtain rfl : zs = [] := List.eq_nil_of_length_eq_zero h0
    exact ⟨none, 0, rfl, fun _ => ⟨rfl, rfl⟩, fun _ h => by cases h⟩
  · exact ⟨some ⟨g, 0, none⟩, cap, rfl, (fun h => by cases h), fun ad had => ⟨rest.2.2.1, fun j u hu => by
      cases had; exact h.cells rfl j u hu⟩⟩
set_option maxRecDepth 100000 in
theorem ints_at {w : World} {v : Value} {zs : List Int} (h : HasInts w v zs) (n k : Nat) (hn : zs.length = n) (z : Int) (hz : zs[k]? = some z) : ∃ ad cap, v = .slice (some ad) n cap ∧ w.cell? (ad.add k) = some (.int .i64 z) := by
  obtain ⟨ao, cap, rfl, hnil, hcs⟩ := h
  subst hn
  cases ao with
  | none => obtain ⟨hl, _⟩ := hnil rfl; subst hl; simp at hz
  | some ad => exact ⟨ad, cap, rfl, (hcs ad rfl).2 k _ (by simp only [intsC, List.getElem?_map, hz, Option.map])⟩
set_option maxRecDepth 100000 in
theorem ints_shape {w : World} {v : Value} {zs : List Int} (h : HasInts w v zs) (n : Nat) (hn : n = zs.length) : ∃ ao cap, v = .slice ao n cap := by
  obtain ⟨ao, cap, rfl, -⟩ := h
  exact ⟨ao, cap, by rw [hn]⟩
structure UstarFace : Prop where
  put : ∀ w v (l : List F8), HasFiles w v l → (∀ f ∈ l, f.1.length < 1152921504606846976) → l.length ≤ 200 → totalB l ≤ 60000 → Calls Tryd.prog 12 #[v] w fun e w' => ∃ x, e = .returned (.tuple #[x, .int .i64 (putUErr l)]) ∧ OwnText w' w.heap.size x (putU l) ∧ Below w.heap.size w w'
  get : ∀ w v (b : List UInt8), HasText w v b → b.length ≤ 70000 → Calls Tryd.prog 16 #[v] w fun e w' => ∃ x, e = .returned (.tuple #[x, .int .i64 (getUErr b)]) ∧ HasFiles w' x (getU b) ∧ Below w.heap.size w w'
structure SizeFace : Prop where
  size : ∀ w v (zs : List Int), HasInts w v zs → zs.length ≤ 40 → (∀ z ∈ zs, 0 ≤ z ∧ z ≤ 20000) → Calls Tryd.prog 14 #[v] w fun e w' => e = .returned (.int .i64 (sizeU zs)) ∧ Below w.heap.size w w'
set_option maxRecDepth 100000 in
theorem sizeU_take (zs : List Int) (k : Nat) (z : Int) (h : zs[k]? = some z) : sizeU (zs.take (k + 1)) = sizeU (zs.take k) + 512 + roundZ z := by
  obtain ⟨hk, rfl⟩ := List.getElem?_eq_some_iff.1 h
  rw [List.take_succ_eq_append_getElem hk, sizeU_append]; simp [sizeU]; omega
set_option maxRecDepth 100000 in
theorem sizeU_le (zs : List Int) (h : ∀ z ∈ zs, 0 ≤ z ∧ z ≤ 20000) : 1024 ≤ sizeU zs ∧ sizeU zs ≤ 1024 + zs.length * 20992 := by
  induction zs with
  | nil => simp [sizeU]
  | cons z t ih =>
    obtain ⟨h1, h2⟩ := ih fun y hy => h y (List.mem_cons.2 (.inr hy))
    have h3 := h z (List.mem_cons.2 (.inl rfl))
    have h4 : 0 ≤ roundZ z ∧ roundZ z ≤ 20480 := by unfold roundZ; split <;> omega
    rw [sizeU, List.length_cons]; omega
set_option maxRecDepth 100000 in
theorem size_wraps (s r s5 : Int) (h : s5 = s + 512) (h1 : 0 ≤ s ∧ s ≤ 900000) (h2 : 0 ≤ r ∧ r ≤ 20480) : wrap64 (s + 512) = s5 ∧ wrap64 (s5 + r) = s5 + r := by constructor <;> rw [wrap64] <;> omega
set_option maxRecDepth 100000 in
set_option maxHeartbeats 4000000 in
theorem refSize_any (w : World) (v : Value) (zs : List Int) (hv : HasInts w v zs) (hl : zs.length ≤ 40) (hz : ∀ z ∈ zs, 0 ≤ z ∧ z ≤ 20000) : Calls Tryd.prog 15 #[v] w fun e w' => e = .returned (.int .i64 (sizeU zs)) ∧ Below w.heap.size w w' := by
  obtain ⟨n, hn⟩ : ∃ n, n = zs.length := ⟨_, rfl⟩
  obtain ⟨ao, cap, rfl⟩ := ints_shape hv n hn
  have HV := Lib.hid hv
  have HN := Lib.hid hn
  have HZ := Lib.hid hz
  rw [← hn] at hl
  clear hn hv hz
  go_enter Tryd.func15, Tryd.ntmps15
  go_wp2
  go_loopw [3, 4] (fun s i wr => w = wr ∧ ∃ k : Nat, k ≤ n ∧ i = .int .i64 k ∧ s = .int .i64 (sizeU (zs.take k))) (fun _ i _ => n - (intOf i).toNat)
  case atStart => exact ⟨rfl, 0, by omega, rfl, rfl⟩
  case round =>
    obtain ⟨rfl, k, hk, rfl, rfl⟩ := hrel
    by_cases hlt : k < n
    · obtain ⟨z, hz⟩ : ∃ z, zs[k]? = some z := ⟨zs[k]'(by have := HN.out; omega), List.getElem?_eq_getElem _⟩
      obtain ⟨ad, cap', e, c1⟩ := ints_at HV.out n k HN.out.symm z hz
      cases e
      have hzb := HZ.out z (List.mem_of_getElem? hz)
      have R1 := Lib.hid (fun w => refRound_any z (by omega) w)
      have HS := Lib.hid (sizeU_take zs k z hz)
      have hsb := sizeU_le (zs.take k) fun y hy => HZ.out y (List.mem_of_mem_take hy)
      have htl : (zs.take k).length ≤ 40 := by rw [List.length_take, ← HN.out]; omega
      obtain ⟨s, hs⟩ : ∃ s, sizeU (zs.take k) = s := ⟨_, rfl⟩
      obtain ⟨r, hr⟩ : ∃ r, roundZ z = r := ⟨_, rfl⟩
      have hrb : 0 ≤ r ∧ r ≤ 20480 := by rw [← hr]; unfold roundZ; split <;> omega
      rw [hs] at HS hsb
      rw [hr] at HS R1
      obtain ⟨s5, hs5⟩ : ∃ s5, s5 = s + 512 := ⟨_, rfl⟩
      obtain ⟨ew1, ew2⟩ := size_wraps s r s5 hs5 (by omega) hrb
      have q0 : (k : Int) < (n : Int) := by clear ew1 ew2; omega
      rw [hs]
      rw [← hs5] at HS
      clear hs hr hzb hsb htl hrb hz hs5
      go_wp2_with (first | (go_at_call 25; refine (R1.out _).mono ?_; rintro e w' ⟨rfl, rfl⟩))
      go_roundw
      case rel => exact ⟨trivial, k + 1, by clear ew1 ew2; omega, by go_num, by rw [ew2, HS.out]⟩
      case measure => clear ew1 ew2; simp [intOf]; omega
    · obtain rfl : k = n := by omega
      have HE := Lib.hid (show zs.take k = zs from List.take_of_length_le (by rw [← HN.out]; omega))
      clear hlt
      rw [HE.out]
      go_wp2
      go_ret
      exact ⟨rfl, Below.refl _ _⟩
set_option maxRecDepth 100000 in
/-- A slice of bytes that was just written out. -/
theorem text_new (w : World) (t : TypeId) (fr : Nat × Nat) (l : List UInt8) : HasText (w.alloc (.cells (l.map fun c => Value.int .u8 (c.toNat : Int)).toArray t fr)) (.slice (some ⟨w.heap.size, 0, none⟩) l.length l.length) l := by
  have h := has_new w t fr (l.map w8)
  rw [bytesL_map, List.length_map] at h
  exact h
set_option maxRecDepth 100000 in
theorem one_file : putUErr [] = 0 ∧ (putU []).length = 1024 ∧ putUErr [([97], [120, 121, 122])] = 0 ∧ (putU [([97], [120, 121, 122])]).length = 2048 := by
  have h1 : putUErr [([97], [120, 121, 122])] = 0 := by decide +kernel
  have h0 : putUErr [] = 0 := by decide
  refine ⟨h0, by have := putU_len h0; simp only [List.map, sizeU] at this; omega, h1, ?_⟩
  have := putU_len h1
  simp only [List.map, sizeU, List.length] at this
  have e : roundZ ((0 + 1 + 1 + 1 : Nat) : Int) = 512 := by decide
  rw [e] at this
  omega
set_option maxRecDepth 100000 in
/-- One file's slice, that was just written out. -/
theorem files_new (w : World) (t : TypeId) (p : List UInt8) (u : Value) (d : List UInt8) (hu : HasText w u d) : HasFiles (w.alloc (.cells #[.string (str p), u] t (0, 0))) (.slice (some ⟨w.heap.size, 0, none⟩) 1 1) [(p, d)] := by
  refine ⟨[((p, d), u)], rfl, fun x hx => ?_, some ⟨w.heap.size, 0, none⟩, 1, rfl, (fun h => by cases h), fun ad had => ⟨Nat.le_refl _, fun j v hv => ?_⟩⟩
  · rw [List.mem_singleton] at hx; subst hx
    exact text_keep hu ((Below.refl w.heap.size w).alloc (Nat.le_refl _) _)
  · cases had
    rw [Addr.add_lit, Nat.zero_add, cell_of_row _ _ j _ _ _ (heap_last w _)]
    simpa [filesC] using hv
set_option maxRecDepth 100000 in
set_option maxHeartbeats 8000000 in
theorem awake8_any (F : UstarFace) (w : World) : Calls Tryd.prog 10 #[] w fun e w' => e = .returned (.bool true) ∧ Below w.heap.size w w' := by
  obtain ⟨h0, l0, h1, l1⟩ := one_file
  have P0 := Lib.hid (show ∀ w, Calls Tryd.prog 12 #[.slice none 0 0] w fun e w' => ∃ x, e = .returned (.tuple #[x, .int .i64 0]) ∧ (∃ ao cap, x = .slice ao 1024 cap) ∧ Below w.heap.size w w' from fun w => by
    refine (F.put w (.slice none 0 0) [] (files_nil w) (fun f hf => by cases hf) (by simp) (by simp [totalB])).mono fun e w' h => ?_
    obtain ⟨x, he, hx, hb⟩ := h
    rw [h0] at he
    exact ⟨x, he, text_len hx.1 1024 l0, hb⟩)
  have P1 := Lib.hid (show ∀ w v, HasFiles w v [([97], [120, 121, 122])] → Calls Tryd.prog 12 #[v] w fun e w' => ∃ x, e = .returned (.tuple #[x, .int .i64 0]) ∧ HasText w' x (putU [([97], [120, 121, 122])]) ∧ (∃ ao cap, x = .slice ao 2048 cap) ∧ Below w.heap.size w w' from fun w v hv => by
    refine (F.put w v _ hv (fun f hf => by rw [List.mem_singleton] at hf; subst hf; decide) (by simp) (by simp [totalB])).mono fun e w' h => ?_
    obtain ⟨x, he, hx, hb⟩ := h
    rw [h1] at he
    exact ⟨x, he, hx.1, text_len hx.1 2048 l1, hb⟩)
  have G1 := Lib.hid (show ∀ w v, HasText w v (putU [([97], [120, 121, 122])]) → Calls Tryd.prog 16 #[v] w fun e w' => ∃ x, e = .returned (.tuple #[x, .int .i64 0]) ∧ HasFiles w' x [([97], [120, 121, 122])] ∧ Below w.heap.size w w' from fun w v hv => by
    refine (F.get w v _ hv (by rw [l1]; decide)).mono fun e w' h => ?_
    rw [(get_putU h1).1, (get_putU h1).2] at h
    exact h)
  clear h0 l0 h1 l1
  generalize putU [([97], [120, 121, 122])] = X at *
  have s1 : (str [120, 121, 122]).toList = [120, 121, 122] := str_toList _
  have s2 : (ByteArray.mk #[120, 121, 122]).toList = [120, 121, 122] := ByteArray.toList_mk _
  go_enter Tryd.func10, Tryd.ntmps10
  go_upto_region 2 with (first | (go_at_call 12; refine (P0.out _).mono ?_; rintro e w1 ⟨x1, rfl, ⟨ao1, c1, rfl⟩, hb⟩; have H1 := Lib.hid hb; clear hb))
  have T1 : Hid (HasText (w1.alloc (.cells #[.int .u8 120, .int .u8 121, .int .u8 122] 5 (3, 4))) (.slice (some ⟨w1.heap.size, 0, none⟩) 3 3) [120, 121, 122]) := Lib.hid (text_new w1 5 (3, 4) [120, 121, 122])
  have F1 : Hid (HasFiles ((w1.alloc (.cells #[.int .u8 120, .int .u8 121, .int .u8 122] 5 (3, 4))).alloc (.cells #[.string ⟨#[97]⟩, .slice (some ⟨w1.heap.size, 0, none⟩) 3 3] 33)) (.slice (some ⟨w1.heap.size + 1, 0, none⟩) 1 1) [([97], [120, 121, 122])]) := Lib.hid (by
    have h := files_new (w1.alloc (.cells #[.int .u8 120, .int .u8 121, .int .u8 122] 5 (3, 4))) 33 [97] _ [120, 121, 122] T1.out
    rw [World.size_alloc] at h; exact h)
  have B2 : Hid (Below w.heap.size w ((w1.alloc (.cells #[.int .u8 120, .int .u8 121, .int .u8 122] 5 (3, 4))).alloc (.cells #[.string ⟨#[97]⟩, .slice (some ⟨w1.heap.size, 0, none⟩) 3 3] 33))) := Lib.hid ((H1.out.alloc H1.out.size _).alloc (by have := H1.out.size; simp; omega) _)
  have cv0 := Lib.run_convert_bytes_const (P := Tryd.prog) w1 25 5 #[.int .u8 120, .int .u8 121, .int .u8 122] 3 3 Tryd.underlying25 Tryd.underlying5
  go_upto_region 3 with (first
    | (refine build_on (by rfl) 33 #[(0, .const (.string ⟨#[97]⟩)), (1, .tmp 13)] rfl _ _ (built_file _ _ _ _) (by simp [Act.eval]) ?_)
    | (go_at_call 12; generalize (w1.alloc (.cells #[.int .u8 120, .int .u8 121, .int .u8 122] 5 (3, 4))).alloc (.cells #[.string ⟨#[97]⟩, .slice (some ⟨w1.heap.size, 0, none⟩) 3 3] 33) = W2 at *; refine (P1.out _ _ F1.out).mono ?_; rintro e w2 ⟨x2, rfl, hx, ⟨ao2, c2, rfl⟩, hb⟩; have HX := Lib.hid hx; have H2 := Lib.hid (B2.out.trans (hb.mono B2.out.size)); clear hx hb))
  go_upto_region 4 with (first | (go_at_call 16; refine (G1.out _ _ HX.out).mono ?_; rintro e w3 ⟨x3, rfl, hx, hb⟩; have HF := Lib.hid hx; have H3 := Lib.hid (below_next H2.out hb); clear hx hb))
  obtain ⟨ad, c3, u, rfl, p1, p2, ht⟩ := files_at HF.out 1 0 rfl ([97], [120, 121, 122]) rfl
  have cv := conv_text Tryd.underlying25 Tryd.underlying5 Tryd.underlying9 ht
  have p2' : w3.cell? ⟨ad.block, ad.off + 1, none⟩ = some u := by
    have e : ad.add (0 * 2) = ad := by unfold Addr.add; simp
    rw [e] at p2; exact p2
  clear ht p1 p2
  go_wp2
  go_ret
  exact ⟨rfl, H3.out⟩
end Go.Proofs.YtocpplnnnflekaaDoor
namespace Go.Proofs.YtocpplnnnflekaaDoor
open Go.RowKit
/-- A byte of a slice that may be written. -/
theorem ownText_at {w : World} {base : Nat} {g o n cap : Nat} {l : List UInt8} (h : OwnText w base (.slice (some ⟨g, o, none⟩) n cap) l) (k : Nat) (hk : k < l.length) (c : UInt8) (hc : l.getD k 0 = c) :
    w.cell? ⟨g, o + k, none⟩ = some (.int .u8 (c.toNat : Int)) ∧ w.frozen? ⟨g, o + k, none⟩ = false ∧ base ≤ g := by
  obtain ⟨ad, c', e1, e2, e3, e4⟩ := text_at h.1 k hk
  cases e1
  obtain ⟨f1, f2, f3⟩ := h.2 _ _ _ rfl
  have f4 := f3 k hk
  rw [Addr.add_lit] at e4 f4
  rw [← hc, e3]
  exact ⟨e4, f4, f1⟩
/-- One byte of it written over. -/
theorem ownText_set {w : World} {base : Nat} {g o n cap : Nat} {l : List UInt8} (h : OwnText w base (.slice (some ⟨g, o, none⟩) n cap) l) (k : Nat) (hk : k < l.length) (c : UInt8) (v : Value) (hv : v = .int .u8 (c.toNat : Int)) :
    OwnText (w.setCell ⟨g, o + k, none⟩ v) base (.slice (some ⟨g, o, none⟩) n cap) (l.set k c) := by
  subst hv
  have h1 := (ownText_at h k hk _ rfl).1
  refine ⟨?_, fun ad n' cap' e => ?_⟩
  · obtain ⟨ao', cap', e, hnil, hc⟩ := h.1
    cases e
    refine ⟨_, _, by rw [List.length_map, List.length_map, List.length_set], (fun h => by cases h), fun ad had => ⟨by have := (hc _ rfl).1; rw [List.length_map] at this ⊢; rw [List.length_set]; exact this, fun j u hu => ?_⟩⟩
    cases had
    rw [Addr.add_lit]
    rw [bytesL_map, List.getElem?_map, List.getElem?_set] at hu
    split at hu
    · rename_i hjk
      subst hjk
      cases hu
      exact World.cell?_setCell_same' _ _ _ (by rw [h1]; rfl)
    · rename_i hjk
      have h2 := (hc _ rfl).2 j u (by rw [bytesL_map, List.getElem?_map]; exact hu)
      rw [Addr.add_lit] at h2
      exact (World.cell?_setCell_other _ _ _ _ (show (⟨g, o + k, none⟩ : Addr) ≠ ⟨g, o + j, none⟩ from fun e => by injection e with e1 e2; omega)).trans h2
  · cases e
    obtain ⟨f1, f2, f3⟩ := h.2 _ _ _ rfl
    refine ⟨f1, f2, fun j hj => ?_⟩
    rw [World.frozen?_setCell]
    rw [List.length_set] at hj
    exact f3 j hj
end Go.Proofs.YtocpplnnnflekaaDoor
namespace Go.Proofs.YtocpplnnnflekaaDoor
open Go.RowKit
theorem xor_u8 (c m : UInt8) : bits .xor .u8 (c.toNat : Int) (m.toNat : Int) = ((c ^^^ m).toNat : Int) := by
  have h1 := UInt8.toNat_lt c
  have h2 := UInt8.toNat_lt m
  have h3 := UInt8.toNat_lt (c ^^^ m)
  simp only [bits, BitVec.ofInt_natCast, BitVec.toNat_xor, BitVec.toNat_ofNat]
  rw [show c.toNat % 2 ^ IntKind.bits .u8 = c.toNat from Nat.mod_eq_of_lt h1, show m.toNat % 2 ^ IntKind.bits .u8 = m.toNat from Nat.mod_eq_of_lt h2, ← UInt8.toNat_xor, IntKind.wrap_u8]
  omega
theorem xor_byte (c m : UInt8) (hm : m ≠ 0) : ∃ (x y : Nat) (d : UInt8), x = c.toNat ∧ y = d.toNat ∧ d ≠ c ∧ bits .xor .u8 (x : Int) (m.toNat : Int) = (y : Int) ∧ bits .xor .u8 (y : Int) (m.toNat : Int) = (x : Int) := by
  refine ⟨c.toNat, (c ^^^ m).toNat, c ^^^ m, rfl, rfl, fun e => hm ?_, xor_u8 c m, ?_⟩
  · have := congrArg (fun z => c ^^^ z) e
    simpa [← UInt8.xor_assoc] using this
  · rw [xor_u8, UInt8.xor_assoc, UInt8.xor_self, UInt8.xor_zero]
end Go.Proofs.YtocpplnnnflekaaDoor
namespace Go.Proofs.YtocpplnnnflekaaDoor
open Go.RowKit
theorem octs_val8 (k : Nat) : ∀ l : List UInt8, l.length = k → (∀ c ∈ l, 48 ≤ c.toNat ∧ c.toNat ≤ 55) → octs k (val8 l) = l := by
  induction k with
  | zero => intro l hl _; rw [List.eq_nil_of_length_eq_zero hl, octs_zero]
  | succ k ih =>
    intro l hl hc
    rcases List.eq_nil_or_concat l with rfl | ⟨t, c, rfl⟩
    · simp at hl
    · rw [List.concat_eq_append] at hl hc ⊢
      rw [List.length_append, List.length_singleton] at hl
      have h1 := ih t (by omega) fun x hx => hc x (by simp [hx])
      have h2 := hc c (by simp)
      rw [octs_succ, val8_snoc, show (8 * val8 t + c.toNat % 8) / 8 = val8 t from by omega, h1, show 48 + (8 * val8 t + c.toNat % 8) % 8 = c.toNat from by omega]
      simp
theorem octs_mem (k : Nat) : ∀ (n : Nat) (c : UInt8), c ∈ octs k n → 48 ≤ c.toNat ∧ c.toNat ≤ 55 := by
  induction k with
  | zero => intro n c hc; rw [octs_zero] at hc; cases hc
  | succ k ih =>
    intro n c hc
    rw [octs_succ, List.mem_append] at hc
    rcases hc with hc | hc
    · exact ih _ c hc
    · rw [List.mem_singleton] at hc
      rw [hc, oct_toNat _ (by omega)]; omega
theorem isOct_iff (b : List UInt8) : isOct b = true ↔ 2 ≤ b.length ∧ b.length ≤ 12 ∧ b.getD (b.length - 1) 0 = 0 ∧ ∀ j, j < b.length - 1 → 48 ≤ (b.getD j 0).toNat ∧ (b.getD j 0).toNat ≤ 55 := by
  constructor
  · intro h
    obtain ⟨h1, h2, h3, -⟩ := isOct_of h
    obtain ⟨k, hk⟩ : ∃ k, k = b.length - 1 := ⟨_, rfl⟩
    refine ⟨h1, h2, ?_⟩
    rw [← hk]
    have e : b = octs k (val8 b.dropLast) ++ [0] := by rw [putL, ← hk] at h3; exact h3.symm
    generalize val8 b.dropLast = V at e
    have hl := octs_length k V
    rw [e]
    constructor
    · rw [List.getD_eq_getElem?_getD, List.getElem?_append_right (by omega), hl, Nat.sub_self]; rfl
    · intro j hj
      rw [List.getD_eq_getElem?_getD, List.getElem?_append_left (by omega), List.getElem?_eq_getElem (by omega)]
      exact octs_mem k V _ (List.getElem_mem _)
  · rintro ⟨h1, h2, h3, h4⟩
    simp only [isOct, Bool.and_eq_true, decide_eq_true_eq, beq_iff_eq]
    refine ⟨h1, h2, ?_⟩
    have hne : b ≠ [] := by intro e; rw [e] at h1; simp at h1
    rw [putL, octs_val8 (b.length - 1) b.dropLast (by rw [List.length_dropLast]) fun c hc => ?_]
    · have e := List.dropLast_concat_getLast hne
      have h5 : b.getLast hne = 0 := by
        rw [List.getLast_eq_getElem, ← h3, List.getD_eq_getElem?_getD, List.getElem?_eq_getElem (by omega)]; rfl
      rw [h5] at e; exact e
    · obtain ⟨j, hj, rfl⟩ := List.mem_iff_getElem.1 hc
      rw [List.length_dropLast] at hj
      have := h4 j hj
      rw [List.getD_eq_getElem?_getD, List.getElem?_eq_getElem (by omega), Option.getD_some] at this
      rw [List.getElem_dropLast]; exact this
theorem get_no {b : List UInt8} (h : ¬ isOct b = true) : getN b = 0 ∧ getErr b = 2 := by rw [getN, getErr, if_neg h, if_neg h]; exact ⟨rfl, rfl⟩
theorem get_yes {b : List UInt8} (h : isOct b = true) : getN b = val8 (b.take (b.length - 1)) ∧ getErr b = 0 := by rw [getN, getErr, if_pos h, if_pos h, List.dropLast_eq_take]; exact ⟨rfl, rfl⟩
theorem or_join (V d q : Nat) (h1 : V < 68719476736) (hd : d < 8) (hq : q = 8 * V + d) : bits .or .i64 ((8 * V : Nat) : Int) (d : Int) = (q : Int) := by
  rw [bits_join .i64 62 (by decide) (fun n h0 h1 => by rw [IntKind.wrap_i64]; omega) 3 _ _ (by omega) (by omega) (by omega) (by omega) (by omega) (by omega)]
  omega
theorem get_nums (V y : Nat) (hV : V < 68719476736) (h1 : 48 ≤ y) (h2 : y ≤ 55) : ∃ d p8 q : Nat, (V : Int) * 8 = (p8 : Int) ∧ IntKind.i64.wrap (p8 : Int) = (p8 : Int) ∧ wrap64 (p8 : Int) = (p8 : Int) ∧ (y : Int) - 48 = (d : Int) ∧ IntKind.u8.wrap (d : Int) = (d : Int) ∧ (d : Int) % 256 = (d : Int) ∧ IntKind.i64.wrap (d : Int) = (d : Int) ∧ wrap64 (d : Int) = (d : Int) ∧ bits .or .i64 (p8 : Int) (d : Int) = (q : Int) ∧ q = 8 * V + y % 8 := by
  refine ⟨y - 48, 8 * V, 8 * V + (y - 48), by omega, wrap_small _ (by omega), by rw [wrap64]; omega, by omega, by rw [IntKind.wrap_u8]; omega, by omega, wrap_small _ (by omega), by rw [wrap64]; omega, or_join V (y - 48) _ hV (by omega) rfl, by omega⟩
theorem measure_up (p k : Nat) (h : k < p) : p - (intOf (.int .i64 ((k + 1 : Nat) : Int))).toNat < p - (intOf (.int .i64 (k : Int))).toNat := by
  simp only [intOf, Int.toNat_natCast]; omega
set_option maxHeartbeats 4000000 in
theorem get_any (b : List UInt8) (hb : b.length < 4611686018427387904) (v : Value) (w : World) (hv : HasText w v b) : Calls Tryd.prog 37 #[v] w fun e w' => e = .returned (.tuple #[.int .i64 (getN b), .int .i64 (getErr b)]) ∧ Below w.heap.size w w' := by
  have HV := Lib.hid hv
  obtain ⟨ao, cap, rfl, -⟩ := hv
  obtain ⟨n, hn⟩ : ∃ n, n = (b.map w8).length := ⟨_, rfl⟩
  rw [← hn] at HV ⊢
  have hnl : n = b.length := by rw [hn, List.length_map]
  have HN := Lib.hid hnl
  clear hn
  have hn : n < 4611686018427387904 := by omega
  clear hnl hb
  obtain ⟨z1, hz1⟩ : ∃ z : Int, z = (n : Int) - 1 := ⟨_, rfl⟩
  have e0 : (n : Int) - 1 = z1 := hz1.symm
  have e0' : wrap64 z1 = z1 := by rw [wrap64]; omega
  have e0'' : IntKind.i64.wrap z1 = z1 := by rw [IntKind.wrap_i64]; omega
  have HZ := Lib.hid hz1
  clear hz1
  by_cases h2 : n < 2
  · have d1 : decide ((n : Int) < 2) = true := decide_eq_true (by omega)
    have HR := Lib.hid (get_no (b := b) fun h => by have := ((isOct_iff b).1 h).1; have := HN.out; omega)
    clear hn h2
    go_enter Tryd.func37, Tryd.ntmps37
    go_wp2
    go_ret2
    exact ⟨by rw [HR.out.1, HR.out.2]; try rfl, Below.refl _ _⟩
  · by_cases h12 : 12 < n
    · have d1 : decide ((n : Int) < 2) = false := decide_eq_false (by omega)
      have d2 : decide ((n : Int) > 12) = true := decide_eq_true (by omega)
      have HR := Lib.hid (get_no (b := b) fun h => by have := ((isOct_iff b).1 h).2.1; have := HN.out; omega)
      clear hn h2 h12
      go_enter Tryd.func37, Tryd.ntmps37
      go_wp2
      go_ret2
      exact ⟨by rw [HR.out.1, HR.out.2]; try rfl, Below.refl _ _⟩
    · obtain ⟨p, hp⟩ : ∃ p : Nat, p = n - 1 := ⟨_, rfl⟩
      obtain rfl : z1 = (p : Int) := by rw [HZ.out]; omega
      have hpn : p + 1 = n := by omega
      have HP := Lib.hid hpn
      obtain ⟨ad, c, rfl, hc, hcd, c0⟩ := text_at HV.out p (by rw [← HN.out]; omega)
      obtain ⟨x, hx⟩ : ∃ x : Nat, x = c.toNat := ⟨_, rfl⟩
      have HX := Lib.hid hx
      rw [← hx] at c0
      have HC := Lib.hid hcd
      have d1 : decide ((n : Int) < 2) = false := decide_eq_false (by omega)
      have d2 : decide ((n : Int) > 12) = false := decide_eq_false (by omega)
      have q0 : (p : Int) < (n : Int) := by omega
      have hp12 : p < 12 := by omega
      have HP1 := Lib.hid (show 1 ≤ p by omega)
      clear hc hcd hx hp hn h2 h12
      by_cases hx0 : x = 0
      · subst hx0
        have hlast : b.getD p 0 = 0 := by rw [HC.out]; exact UInt8.toNat_inj.1 HX.out.symm
        have qc : (p : Int) ≤ (cap : Int) := by have := text_cap HV.out; omega
        have HL := Lib.hid hlast
        have HPP := Lib.hid hp12
        clear hlast hp12 hpn
        go_enter Tryd.func37, Tryd.ntmps37
        go_wp2
        go_loopw [5, 30] (fun x c wr => wr = w ∧ ∃ k : Nat, k ≤ p ∧ c = .int .i64 k ∧ x = .int .i64 ((val8 (b.take k) : Nat) : Int) ∧ ∀ j, j < k → 48 ≤ (b.getD j 0).toNat ∧ (b.getD j 0).toNat ≤ 55) (fun _ c _ => p - (intOf c).toNat)
        case atStart => exact ⟨rfl, 0, by omega, rfl, by rw [List.take_zero, val8_nil]; rfl, fun j hj => by omega⟩
        case round =>
          obtain ⟨rfl, k, hk, rfl, rfl, hall⟩ := hrel
          have HA := Lib.hid hall
          obtain ⟨V, hV⟩ : ∃ V, V = val8 (b.take k) := ⟨_, rfl⟩
          have hVlt := val8_take_lt b k (by have := HPP.out; omega)
          rw [← hV] at hVlt ⊢
          have HVV := Lib.hid hV
          clear hV hall
          by_cases hlt : k < p
          · have q1 : (k : Int) < (p : Int) := by omega
            obtain ⟨ad', c', ea, hc, hcd, c1⟩ := text_at HV.out k (by have := HN.out; have := HP.out; omega)
            obtain rfl : ad' = ad := (Option.some.inj ea).symm
            obtain ⟨y, hy⟩ : ∃ y : Nat, y = c'.toNat := ⟨_, rfl⟩
            have HY := Lib.hid hy
            have HD := Lib.hid hcd
            have HC1 := Lib.hid hc
            have hy2 := UInt8.toNat_lt c'
            rw [← hy] at c1 hy2
            clear ea hc hcd hy
            by_cases h48 : y < 48
            · have d3 : decide ((y : Int) < 48) = true := decide_eq_true (by omega)
              have HR := Lib.hid (get_no (b := b) fun h => by
                have h := (((isOct_iff b).1 h).2.2.2 k (by have := HN.out; have := HP.out; omega)).1
                rw [HD.out, ← HY.out] at h; omega)
              clear h48 hy2 hVlt
              go_wp2
              go_ret2
              exact ⟨by rw [HR.out.1, HR.out.2]; try rfl, Below.refl _ _⟩
            · have d3 : decide ((y : Int) < 48) = false := decide_eq_false (by omega)
              by_cases h55 : 55 < y
              · have d4 : decide ((y : Int) > 55) = true := decide_eq_true (by omega)
                have HR := Lib.hid (get_no (b := b) fun h => by
                  have h := (((isOct_iff b).1 h).2.2.2 k (by have := HN.out; have := HP.out; omega)).2
                  rw [HD.out, ← HY.out] at h; omega)
                clear h48 h55 hy2 hVlt
                go_wp2
                go_ret2
                exact ⟨by rw [HR.out.1, HR.out.2]; try rfl, Below.refl _ _⟩
              · have d4 : decide ((y : Int) > 55) = false := decide_eq_false (by omega)
                have HA' := Lib.hid (show ∀ j, j < k + 1 → 48 ≤ (b.getD j 0).toNat ∧ (b.getD j 0).toNat ≤ 55 from fun j hj => by
                  rcases Nat.lt_or_ge j k with h | h
                  · exact HA.out j h
                  · obtain rfl : j = k := by omega
                    rw [HD.out, ← HY.out]; omega)
                have w1 := next64 k (by have := HPP.out; omega)
                obtain ⟨d, p8, q, f0, f1, f1', f2, f3, f3', f4, f4', f5, hq⟩ := get_nums V y hVlt (by omega) (by omega)
                have HQ := Lib.hid (show q = val8 (b.take (k + 1)) by rw [val8_next b k c' HC1.out, ← HVV.out, ← HY.out]; exact hq)
                clear h48 h55 hy2 hVlt hq
                go_wp2
                clear f0 f1 f1' f2 f3 f3' f4 f4' f5 e0 e0' e0''
                refine ⟨⟨trivial, k + 1, hlt, by rw [w1], by rw [← HQ.out], HA'.out⟩, ?_⟩
                rw [w1]
                exact measure_up p k hlt
          · obtain rfl : k = p := by omega
            have HR := Lib.hid (get_yes (b := b) ((isOct_iff b).2 ⟨by have := HN.out; have := HP.out; have := HP1.out; omega, by have := HN.out; have := HP.out; have := HPP.out; omega, by rw [← HN.out, ← HP.out]; exact HL.out, fun j hj => HA.out j (by have := HN.out; have := HP.out; omega)⟩))
            have HE := Lib.hid (show getN b = (V : Int) by rw [HR.out.1, HVV.out, ← HN.out, ← HP.out]; rfl)
            clear hVlt
            go_wp2
            go_ret2
            exact ⟨by rw [HE.out, HR.out.2]; try rfl, Below.refl _ _⟩
      · have d3 : ((x : Int) == 0) = false := by simp; omega
        have HR := Lib.hid (get_no (b := b) fun h => by
          have h := ((isOct_iff b).1 h).2.2.1
          rw [← HN.out, ← HP.out, Nat.add_sub_cancel, HC.out] at h
          rw [h] at HX; exact hx0 HX.out)
        clear hp12 hpn hx0
        go_enter Tryd.func37, Tryd.ntmps37
        go_wp2
        go_ret2
        exact ⟨by rw [HR.out.1, HR.out.2]; try rfl, Below.refl _ _⟩
end Go.Proofs.YtocpplnnnflekaaDoor
namespace Go.Proofs.YtocpplnnnflekaaDoor
open Go.RowKit
/-- Bytes as cells. -/
def byteRow (l : List UInt8) : Array Value := (l.map fun b => Value.int .u8 (b.toNat : Int)).toArray
theorem byteRow_size (l : List UInt8) : (byteRow l).size = l.length := by simp [byteRow]
theorem text_of_row {w : World} {g n : Nat} {t : TypeId} {l : List UInt8} (h : w.heap[g]? = some (.cells (byteRow l) t (0, 0))) (hn : l.length = n) : HasText w (.slice (some ⟨g, 0, none⟩) n n) l := by
  subst hn
  refine ⟨some ⟨g, 0, none⟩, l.length, by rw [List.length_map], (fun h => by cases h), fun ad had => ⟨by rw [List.length_map]; exact Nat.le_refl _, fun j u hu => ?_⟩⟩
  cases had
  rw [bytesL_map] at hu
  rw [Addr.add_lit, Nat.zero_add, cell_of_row w g j _ _ _ h]
  simpa [byteRow] using hu
theorem solo_under {g B : Nat} {w0 w w' : World} (hb : Below B w0 w) (h : Solo g w w') (hg : B ≤ g) : Below B w0 w' :=
  hb.trans ⟨h.os, h.tape, h.output, Nat.le_of_eq h.size.symm, fun k hk => h.block k (by omega)⟩
theorem zeros_row (n : Nat) : (madeCells (Value.int .u8 0).cells (n * 1)).toList = (List.replicate n (0 : UInt8)).map fun b => Value.int .u8 (b.toNat : Int) := by
  apply List.ext_getElem
  · simp [madeCells]
  · intro i h1 h2
    simp [madeCells, Value.cells, Nat.mod_one]
/-- A block of bytes 0 just made. -/
theorem made_row {w : World} {base : Nat} {e : TypeId} {g m : Nat} (h : w.ownsRow base e 1 (.slice (some ⟨g, 0, none⟩) m m) m (madeCells (Value.int .u8 0).cells (m * 1)).toList) : w.heap[g]? = some (.cells (byteRow (List.replicate m 0)) e (0, 0)) := by
  obtain ⟨g0, cap0, cur0, hv0, hbase0, hg0, -, -, hsz0, ht0⟩ := own_block h (by simp)
  obtain ⟨rfl, rfl⟩ : g = g0 ∧ m = cap0 := by injection hv0 with e1 e2 e3; injection e1 with e1; injection e1 with e1; exact ⟨e1, e3⟩
  have hcur : cur0 = byteRow (List.replicate m 0) := by
    apply Array.toList_inj.1
    rw [byteRow, ← zeros_row, ← ht0, List.take_of_length_le (by rw [Array.length_toList, hsz0]; exact Nat.le_refl _)]
  rw [hcur] at hg0; exact hg0
theorem and_seven (y e : Nat) (hy : (y : Int) < 9223372036854775808) (he : e = y % 8) : bits .and .i64 (y : Int) 7 = (e : Int) := by
  have h := bits_mask .i64 63 (by decide) (fun n h0 h1 => by rw [IntKind.wrap_i64]; omega) 3 (by decide) (y : Int) (by omega) (by omega)
  rw [show (2 : Int) ^ 3 - 1 = 7 from by decide, show (2 : Int) ^ 3 = 8 from by decide] at h
  omega
theorem set_row (A : List UInt8) (r : Nat) (d : UInt8) : (byteRow (List.replicate (r + 1) 0 ++ A)).setIfInBounds r (.int .u8 (d.toNat : Int)) = byteRow (List.replicate r 0 ++ (d :: A)) := by
  apply Array.toList_inj.1
  rw [Array.toList_setIfInBounds]
  simp only [byteRow]
  rw [List.replicate_succ', List.append_assoc, List.map_append, List.map_append, List.set_append_right _ _ (by simp)]
  simp
theorem put_row (N j r c : Nat) (hc : c = 48 + N / 8 ^ j % 8) : (byteRow (List.replicate (r + 1) 0 ++ (octs j N ++ [0]))).setIfInBounds r (.int .u8 (c : Int)) = byteRow (List.replicate r 0 ++ (octs (j + 1) N ++ [0])) := by
  subst hc
  rw [octs_front, List.cons_append, ← set_row, oct_toNat _ (by omega)]
/-- The numbers of a round of Put. -/
theorem put_nums (y r m : Nat) (hy : (y : Int) < 9223372036854775808) (hm : r < m) (hm12 : m ≤ 12) : ∃ e c q : Nat, bits .and .i64 (y : Int) 7 = (e : Int) ∧ IntKind.u8.wrap (e : Int) = (e : Int) ∧ (e : Int) % 256 = (e : Int) ∧ (48 : Int) + (e : Int) = (c : Int) ∧ IntKind.u8.wrap (c : Int) = (c : Int) ∧ (c : Int) % 256 = (c : Int) ∧ (y : Int) / 8 = (q : Int) ∧ c = 48 + y % 8 ∧ q = y / 8 ∧ wrap64 ((r : Int) - 1) = (r : Int) - 1 ∧ (r : Int) < (m : Int) := by
  refine ⟨y % 8, 48 + y % 8, y / 8, and_seven y _ hy rfl, by rw [IntKind.wrap_u8]; omega, by omega, by omega, by rw [IntKind.wrap_u8]; omega, by omega, by omega, rfl, rfl, by rw [wrap64]; omega, by omega⟩
theorem put_yes (N m : Nat) (h2 : 2 ≤ m) (h12 : m ≤ 12) (h : N / 8 ^ (m - 1) = 0) : putErr (N : Int) (m : Int) = 0 ∧ putT (N : Int) (m : Int) = octs (m - 1) N ++ [0] := by
  have e : putErr (N : Int) (m : Int) = 0 := by rw [putErr, if_neg (by omega), if_neg (by omega), Int.toNat_natCast, Int.toNat_natCast, if_neg (by omega)]
  exact ⟨e, by rw [putT, if_pos e, Int.toNat_natCast, Int.toNat_natCast, putL]⟩
theorem put_no (N m : Nat) (h2 : 2 ≤ m) (h12 : m ≤ 12) (h : N / 8 ^ (m - 1) ≠ 0) : putErr (N : Int) (m : Int) = 8 ∧ putT (N : Int) (m : Int) = [] := by
  have e : putErr (N : Int) (m : Int) = 8 := by rw [putErr, if_neg (by omega), if_neg (by omega), Int.toNat_natCast, Int.toNat_natCast, if_pos h]
  exact ⟨e, by rw [putT, if_neg (by omega)]⟩
/-- The numbers of Put's tests. -/
theorem shift_nums (N m : Nat) (h2 : 2 ≤ m) (h12 : m ≤ 12) : ∃ f p q : Nat, (m : Int) - 1 = (f : Int) ∧ wrap64 (f : Int) = (f : Int) ∧ IntKind.i64.wrap (f : Int) = (f : Int) ∧ (3 : Int) * (f : Int) = (p : Int) ∧ wrap64 (p : Int) = (p : Int) ∧ IntKind.i64.wrap (p : Int) = (p : Int) ∧ (N : Int) / 2 ^ p = (q : Int) ∧ (0 : Int) ≤ (p : Int) ∧ (p : Int) ≤ 64 ∧ q = N / 8 ^ (m - 1) ∧ f = m - 1 ∧ 1 ≤ f := by
  refine ⟨m - 1, 3 * (m - 1), N / 8 ^ (m - 1), by omega, by rw [wrap64]; omega, by rw [IntKind.wrap_i64]; omega, by omega, by rw [wrap64]; omega, by rw [IntKind.wrap_i64]; omega, ?_, by omega, by omega, rfl, rfl, by omega⟩
  rw [show (8 : Nat) = 2 ^ 3 from rfl, ← Nat.pow_mul, Int.natCast_ediv, Int.natCast_pow]; rfl
set_option maxHeartbeats 4000000 in
theorem put_any (n width : Int) (hn1 : -9223372036854775808 ≤ n) (hn2 : n < 9223372036854775808) (w : World) :
    Calls Tryd.prog 46 #[.int .i64 n, .int .i64 width] w fun e w' => ∃ v, e = .returned (.tuple #[v, .int .i64 (putErr n width)]) ∧ HasText w' v (putT n width) ∧ Below w.heap.size w w' := by
  obtain ⟨i0, hi, hz0, hz1, hz2⟩ := info_parts infoByte
  by_cases h1 : width < 2
  · have HF := Lib.hid (show putErr n width = 1 from (putErr_width n width).2 (.inl h1))
    have d1 : decide (width < 2) = true := decide_eq_true h1
    clear h1 hn1 hn2
    go_enter Tryd.func46, Tryd.ntmps46
    go_wp2
    go_ret2
    rw [HF.out, put_bad HF.out (by decide)]
    exact ⟨_, rfl, hasText_nil _, Below.refl _ _⟩
  · have d1 : decide (width < 2) = false := decide_eq_false h1
    by_cases h12 : 12 < width
    · have HF := Lib.hid (show putErr n width = 1 from (putErr_width n width).2 (.inr h12))
      have d2 : decide (width > 12) = true := decide_eq_true h12
      clear h1 h12 hn1 hn2
      go_enter Tryd.func46, Tryd.ntmps46
      go_wp2
      go_ret2
      rw [HF.out, put_bad HF.out (by decide)]
      exact ⟨_, rfl, hasText_nil _, Below.refl _ _⟩
    · obtain ⟨m, rfl⟩ : ∃ m : Nat, width = (m : Int) := ⟨width.toNat, by omega⟩
      have d2 : decide ((m : Int) > 12) = false := decide_eq_false (by omega)
      have hm2 : 2 ≤ m := by omega
      have hm12 : m ≤ 12 := by omega
      clear h1 h12
      by_cases hneg : n < 0
      · have HF := Lib.hid (show putErr n (m : Int) = 8 by rw [putErr, if_neg (by omega), if_pos hneg])
        have d3 : decide (n < 0) = true := decide_eq_true hneg
        obtain ⟨f, p, q, e1, e2, e3, -⟩ := shift_nums 0 m hm2 hm12
        clear hneg hn1 hn2 hm2 hm12
        go_enter Tryd.func46, Tryd.ntmps46
        go_wp2
        go_ret2
        rw [HF.out, put_bad HF.out (by decide)]
        exact ⟨_, rfl, hasText_nil _, Below.refl _ _⟩
      · obtain ⟨N, rfl⟩ : ∃ N : Nat, n = (N : Int) := ⟨n.toNat, by omega⟩
        have d3 : decide ((N : Int) < 0) = false := decide_eq_false (by omega)
        obtain ⟨f, p, q, e1, e2, e3, e4, e5, e6, e7, e8, e9, hq, hf, hf1⟩ := shift_nums N m hm2 hm12
        clear hneg hn1
        by_cases hz : q = 0
        · subst hz
          have HY := Lib.hid (put_yes N m hm2 hm12 hq.symm)
          have hN2 := Lib.hid hn2
          have HM := Lib.hid (And.intro hm2 hm12)
          have HFm := Lib.hid (And.intro hf hf1)
          clear hq hn2 hm2 hm12 hf hf1
          go_enter Tryd.func46, Tryd.ntmps46
          go_wp2_with (first | (refine wpList_make_full _ rfl (.tmp 26) (.tmp 26) 25 rfl w.heap.size 5 i0 (.int .u8 0) 1 Tryd.underlying25 hi hz0 hz1 .i64 .i64 (m : Int) (m : Int) m rfl rfl rfl rfl (by rw [hz2]; have := HM.out; omega) (by unfold maxLen; have := HM.out; omega) (Nat.le_refl _) ?_; intro w1 ho1 hg1; have HO1 := Lib.hid ho1; have HG1 := Lib.hid hg1; clear ho1 hg1))
          have HC1 := Lib.hid (made_row HO1.out)
          have HB1 := Lib.hid (below_grown (Below.refl w.heap.size w) HG1.out (Nat.le_refl _) (fun k hk => by cases hk))
          clear HO1 HG1
          go_loopw [0, 8] (fun x c wr => ∃ j r : Nat, j + r = f ∧ c = .int .i64 ((r : Int) - 1) ∧ x = .int .i64 ((N / 8 ^ j : Nat) : Int) ∧ wr.heap[w.heap.size]? = some (.cells (byteRow (List.replicate r 0 ++ (octs j N ++ [0]))) 5 (0, 0)) ∧ Below w.heap.size w wr) (fun _ c _ => (intOf c + 1).toNat)
          case atStart => exact ⟨0, f, by omega, rfl, by simp, by rw [octs_zero, List.nil_append, ← List.replicate_succ', show f + 1 = m from by have := HFm.out; have := HM.out; omega]; exact HC1.out, HB1.out⟩
          case round =>
            clear HC1 HB1
            obtain ⟨j, r, hjr, rfl, rfl, hc, hb⟩ := hrel
            have HC := Lib.hid hc
            have HB := Lib.hid hb
            have HJ := Lib.hid hjr
            have hcs : (byteRow (List.replicate r 0 ++ (octs j N ++ [0]))).size = m := by
              rw [byteRow_size, List.length_append, List.length_append, octs_length, List.length_replicate, List.length_singleton]; have := HFm.out; have := HM.out; omega
            have HCS := Lib.hid hcs
            clear hc hb hjr hcs
            obtain ⟨y, hy⟩ : ∃ y, y = N / 8 ^ j := ⟨_, rfl⟩
            have hyN : y ≤ N := by rw [hy]; exact Nat.div_le_self _ _
            have hy63 : (y : Int) < 9223372036854775808 := by have := hN2.out; omega
            have HYY := Lib.hid hy
            rw [← hy]
            clear hy hyN
            cases r with
            | zero =>
              have d5 : decide ((((0 : Nat) : Int) - 1) ≥ 0) = false := by decide
              have HT := Lib.hid (text_of_row (n := m) HC.out (by rw [← byteRow_size]; exact HCS.out))
              have HE := Lib.hid (show List.replicate 0 (0 : UInt8) ++ (octs j N ++ [0]) = putT (N : Int) (m : Int) by rw [HY.out.2, ← HFm.out.1, ← HJ.out]; rfl)
              rw [HE.out] at HT
              clear hy63
              go_wp2
              go_ret2
              rw [HY.out.1]
              exact ⟨_, rfl, HT.out, HB.out⟩
            | succ r =>
              have ec : (((r + 1 : Nat) : Int) - 1) = (r : Int) := by omega
              rw [ec]
              obtain ⟨e, c, q, b1, b2, b3, b4, b5, b6, b7, hc, hq, b8, b9⟩ := put_nums y r m hy63 (by have := HFm.out; have := HJ.out; omega) HM.out.2
              have d5 : decide ((r : Int) ≥ 0) = true := decide_eq_true (by omega)
              have HQ := Lib.hid hq
              have HCC := Lib.hid hc
              have HR := Lib.hid (show r < m by omega)
              clear hq hc hy63 ec
              go_wp2_with (first | (refine store_cell rfl 5 (.tmp 40) (.tmp 39) rfl rfl .u8 w.heap.size r _ _ _ HC.out rfl rfl (by rw [HCS.out]; exact HR.out) (by kernel_rfl) ?_; intro w3 hg3 hs3; have H3 := Lib.hid hg3; have HB3 := Lib.hid (solo_under HB.out hs3 (Nat.le_refl _)); clear hg3 hs3))
              clear b1 b2 b3 b4 b5 b6 b7 e1 e2 e3 e4 e5 e6 e7 e8 e9
              refine ⟨⟨j + 1, r, by have := HJ.out; omega, rfl, ?_, ?_, HB3.out⟩, ?_⟩
              · rw [HQ.out, HYY.out, Nat.div_div_eq_div_mul, ← Nat.pow_succ]
              · have h := H3.out; rw [put_row N j r c (by rw [HCC.out, HYY.out])] at h; exact h
              · simp only [intOf]; omega
        · have d4 : ((q : Int) != 0) = true := by simp; omega
          have HY := Lib.hid (put_no N m hm2 hm12 (by rw [← hq]; exact hz))
          clear hq hz hn2 hm2 hm12 hf hf1
          go_enter Tryd.func46, Tryd.ntmps46
          go_wp2
          go_ret2
          rw [HY.out.1, HY.out.2]
          exact ⟨_, rfl, hasText_nil _, Below.refl _ _⟩
end Go.Proofs.YtocpplnnnflekaaDoor
namespace Go.Proofs.YtocpplnnnflekaaDoor
open Go.RowKit Go.Maps Go.WideMaps
set_option maxRecDepth 100000 in
theorem tooMuch_any (a b : Int) (ha : a ≤ 400) (hb : b ≤ 4194304) (w : World) : Calls Tryd.prog 20 #[.int .i64 a, .int .i64 b] w fun e w' => e = .returned (.bool false) ∧ w = w' := by
  have d1 : decide (a > 400) = false := decide_eq_false (by omega)
  have d2 : decide (b > 4194304) = false := decide_eq_false (by omega)
  clear ha hb
  go_enter Tryd.func20, Tryd.ntmps20
  go_wp2
  go_ret
  exact ⟨rfl, rfl⟩
/-- A path as a map's key. -/
def keyP (p : List UInt8) : Lit := .string (str p).data.toList
set_option maxRecDepth 100000 in
theorem keyP_inj {a b : List UInt8} (h : keyP a = keyP b) : a = b := by
  unfold keyP at h
  injection h
def keysF (l : List F8) : List Lit := l.map fun f => keyP f.1
set_option maxRecDepth 100000 in
theorem keysF_key (l : List F8) : ∀ x ∈ keysF l, WideAt.IsKeyLit x := fun x hx => by
  obtain ⟨f, -, rfl⟩ := List.mem_map.1 hx
  exact trivial
set_option maxRecDepth 100000 in
theorem keysF_nodup (l : List F8) : (keysF l).Nodup ↔ (l.map (·.1)).Nodup := by
  unfold keysF List.Nodup
  rw [List.pairwise_map, List.pairwise_map]
  constructor
  · exact fun h => h.imp fun hne e => hne (by rw [e])
  · exact fun h => h.imp fun hne e => hne (keyP_inj e)
set_option maxRecDepth 100000 in
theorem any_key {acc : List Lit} {x : Lit} (hx : WideAt.IsKeyLit x) : acc.any (fun y => y.sameKey x) = true ↔ x ∈ acc := by
  rw [List.any_eq_true]
  constructor
  · rintro ⟨y, hy, h⟩; rw [WideAt.sameKey_iff hx] at h; subst h; exact hy
  · exact fun h => ⟨x, h, (WideAt.sameKey_iff hx).2 rfl⟩
set_option maxRecDepth 100000 in
theorem addKey_len (xs : List Lit) : ∀ acc : List Lit, acc.Nodup → (∀ x ∈ xs, WideAt.IsKeyLit x) → (xs.foldl addKey acc).length ≤ acc.length + xs.length ∧ ((xs.foldl addKey acc).length = acc.length + xs.length ↔ (acc ++ xs).Nodup) := by
  induction xs with
  | nil => intro acc h _; simp [h]
  | cons x r ih =>
    intro acc h hk
    have hx := hk x (List.mem_cons.2 (.inl rfl))
    have hr : ∀ y ∈ r, WideAt.IsKeyLit y := fun y hy => hk y (List.mem_cons.2 (.inr hy))
    rw [List.foldl_cons, List.length_cons]
    by_cases hm : x ∈ acc
    · have e : addKey acc x = acc := by rw [addKey, if_pos ((any_key hx).2 hm)]
      rw [e]
      obtain ⟨h1, -⟩ := ih acc h hr
      refine ⟨by omega, fun e => by omega, fun hn => ?_⟩
      exact absurd rfl ((List.nodup_append.1 hn).2.2 x hm x (List.mem_cons.2 (.inl rfl)))
    · have e : addKey acc x = acc ++ [x] := by rw [addKey, if_neg (fun h => hm ((any_key hx).1 h))]
      rw [e]
      have hn : (acc ++ [x]).Nodup := List.nodup_append.2 ⟨h, by simp, fun a ha b hb => by rw [List.mem_singleton] at hb; subst hb; exact fun e => hm (e ▸ ha)⟩
      obtain ⟨h1, h2⟩ := ih (acc ++ [x]) hn hr
      rw [List.length_append, List.length_singleton] at h1 h2
      rw [List.append_assoc, List.singleton_append] at h2
      exact ⟨by omega, fun e => h2.1 (by omega), fun hn => by have := h2.2 hn; omega⟩
/-- The set of the paths of the first files. -/
def setF (l : List F8) (k : Nat) : DataW Unit := setOf (.agg []) (keysF (l.take k))
set_option maxRecDepth 100000 in
theorem setF_zero (l : List F8) : setF l 0 = .map [] := by simp [setF, keysF, setOf]
set_option maxRecDepth 100000 in
theorem setF_succ {l : List F8} {k : Nat} {f : F8} (h : l[k]? = some f) : setF l (k + 1) = (setF l k).put (keyP f.1) (.agg []) := by
  obtain ⟨hk, rfl⟩ := List.getElem?_eq_some_iff.1 h
  unfold setF
  rw [List.take_succ_eq_append_getElem hk, keysF, List.map_append, List.map_singleton, setOf_snoc]
  rfl
set_option maxRecDepth 100000 in
theorem setF_size (l : List F8) : Maps.size (setF l l.length) ≤ l.length ∧ decide ((Maps.size (setF l l.length) : Int) < (l.length : Int)) = twiceB l := by
  unfold setF
  rw [List.take_length, size_setOf _ _ (keysF_key l)]
  obtain ⟨h1, h2⟩ := addKey_len (keysF l) [] List.nodup_nil (keysF_key l)
  have hl : (keysF l).length = l.length := by rw [keysF, List.length_map]
  rw [List.length_nil, hl, Nat.zero_add] at h1 h2
  rw [List.nil_append, keysF_nodup] at h2
  refine ⟨h1, ?_⟩
  rw [twiceB, Bool.eq_iff_iff, decide_eq_true_eq, Bool.not_eq_true', decide_eq_false_iff_not, ← h2]
  omega
theorem few_max {k : Nat} (h : k ≤ 200) : k < maxLen := Nat.lt_of_le_of_lt h (by unfold maxLen; decide)
theorem lawP : Keyed Tryd.prog 9 := string_keyed Tryd.underlying9
set_option maxRecDepth 100000 in
set_option maxHeartbeats 4000000 in
theorem onePath_any (w : World) (v : Value) (l : List F8) (hv : HasFiles w v l) (hp : ∀ f ∈ l, (str f.1).size ≤ maxLen) (hl : l.length ≤ 200) :
    Calls Tryd.prog 23 #[v] w fun e w' => e = .returned (.bool (twiceB l)) ∧ Below w.heap.size w w' := by
  have hmm := @run_makeMap Tryd.prog
  obtain ⟨n, hn⟩ : ∃ n, n = l.length := ⟨_, rfl⟩
  obtain ⟨ao, cap, rfl⟩ := files_shape hv n hn
  have HV := Lib.hid hv
  have HN := Lib.hid hn
  have HP := Lib.hid hp
  have HL := Lib.hid (show n ≤ 200 by rw [hn]; exact hl)
  clear hn hv hp hl
  go_enter Tryd.func23, Tryd.ntmps23
  go_wp2
  go_loopw [9] (fun i wr => ∃ k : Nat, k ≤ n ∧ i = .int .i64 k ∧ wr.ownsMap Tryd.prog 9 unitElem w.heap.size k (setF l k) ∧ Below w.heap.size w wr ∧ w.heap.size < wr.heap.size) (fun i _ => n - (intOf i).toNat)
  case atStart => exact ⟨0, Nat.zero_le _, rfl, by rw [setF_zero]; exact World.ownsMap_made _ _ _ _, (Below.refl _ _).alloc (Nat.le_refl _) _, by simp⟩
  case round =>
    obtain ⟨k, hk, rfl, hown, hb, hlt0⟩ := hrel
    by_cases hlt : k < n
    · obtain ⟨f, hf⟩ : ∃ f, l[k]? = some f := ⟨l[k]'(by have := HN.out; omega), List.getElem?_eq_getElem _⟩
      obtain ⟨ad, cap', u, e, c0, c1, ht⟩ := files_at (files_below HV.out hb) n k HN.out.symm f hf
      cases e
      obtain ⟨F1, F2⟩ := f
      obtain ⟨ao', cu, rfl⟩ := text_len ht F2.length rfl
      dsimp only at c0 c1
      have hkey : keyOf Tryd.prog 9 (.string (str F1)) = some (keyP F1) := keyOf_string_mk Tryd.underlying9 (HP.out _ (List.mem_of_getElem? hf))
      have HK := Lib.hid hkey
      have HS := Lib.hid (setF_succ hf)
      have q0 : (k : Int) < (n : Int) := by omega
      have HO := Lib.hid hown
      have HB := Lib.hid hb
      have HCK := Lib.hid (show k + 1 ≤ n from hlt)
      have HKM := Lib.hid (few_max (Nat.le_trans hk HL.out))
      have hl := HL.out
      clear hkey hf ht hown hb
      go_wp2_with (first | (at_mapUpdate; refine wpList_mapUpdate_own _ rfl _ _ _ 58 rfl 9 59 lawP Tryd.underlying58 (unitElem (H := Unit)) w.heap.size k _ rfl (HO.out.alloc _) HKM.out _ _ _ rfl rfl HK.out _ [] unitElem_mk ?_; intro w1 ho1 hg1; have HO1 := Lib.hid ho1; have HG1 := Lib.hid hg1; clear ho1 hg1))
      go_roundw
      case rel => have hck := HCK.out; exact ⟨k + 1, hck, by go_num, by rw [HS.out]; exact HO1.out, (HB.out.alloc HB.out.size _).grown HG1.out (by have := HB.out.size; simp; omega) (fun j hj => by cases hj; exact Nat.le_refl _), by have := HG1.out.size; simp at this; omega⟩
      case measure => have hck := HCK.out; simp [intOf]; omega
    · obtain rfl : k = n := by omega
      have HO := Lib.hid hown
      have HB := Lib.hid hb
      have HS := Lib.hid (setF_size l)
      rw [← HN.out] at HS
      obtain ⟨z, hz⟩ : ∃ z, Maps.size (setF l k) = z := ⟨_, rfl⟩
      have HZ := Lib.hid hz
      rw [hz] at HS
      obtain ⟨t, ht⟩ : ∃ t, twiceB l = t := ⟨_, rfl⟩
      rw [ht] at HS
      have HTW := Lib.hid ht
      have d1 : decide (z < k) = t := by rw [← HS.out.2, Bool.eq_iff_iff, decide_eq_true_eq, decide_eq_true_eq]; omega
      clear hlt hown hb hz ht
      go_wp2_with (first | (at_len; refine wpList_len_own _ rfl _ 58 rfl 9 59 Tryd.underlying58 _ w.heap.size k _ rfl HO.out ?_; rw [HZ.out]))
      go_ret
      exact ⟨by rw [HTW.out]; rfl, HB.out⟩
/-- How many bytes files have, each. -/
def lensF (l : List F8) : List Int := l.map fun f => (f.2.length : Int)
def intRow (zs : List Int) : Array Value := (intsC zs).toArray
def lensTo (l : List F8) (n k : Nat) : List Int := lensF (l.take k) ++ List.replicate (n - k) 0
set_option maxRecDepth 100000 in
theorem made_ints {w : World} {base : Nat} {e : TypeId} {g m : Nat} (h : w.ownsRow base e 1 (.slice (some ⟨g, 0, none⟩) m m) m (madeCells (Value.int .i64 0).cells (m * 1)).toList) : w.heap[g]? = some (.cells (intRow (List.replicate m 0)) e (0, 0)) := by
  obtain ⟨g0, cap0, cur0, hv0, hbase0, hg0, -, -, hsz0, ht0⟩ := own_block h (by simp)
  obtain ⟨rfl, rfl⟩ : g = g0 ∧ m = cap0 := by injection hv0 with e1 e2 e3; injection e1 with e1; injection e1 with e1; exact ⟨e1, e3⟩
  have hz : (madeCells (Value.int .i64 0).cells (m * 1)).toList = intsC (List.replicate m 0) := by
    apply List.ext_getElem
    · simp [madeCells, intsC]
    · intro i h1 h2
      simp [madeCells, Value.cells, Nat.mod_one, intsC]
  have hcur : cur0 = intRow (List.replicate m 0) := by
    apply Array.toList_inj.1
    rw [intRow, ← hz, ← ht0, List.take_of_length_le (by rw [Array.length_toList, hsz0]; exact Nat.le_refl _)]
  rw [hcur] at hg0; exact hg0
set_option maxRecDepth 100000 in
theorem lensTo_set {l : List F8} {n k : Nat} (hn : n = l.length) {f : F8} (h : l[k]? = some f) : (intRow (lensTo l n k)).setIfInBounds k (.int .i64 (f.2.length : Int)) = intRow (lensTo l n (k + 1)) := by
  obtain ⟨hk, rfl⟩ := List.getElem?_eq_some_iff.1 h
  apply Array.toList_inj.1
  rw [Array.toList_setIfInBounds]
  simp only [intRow, intsC, lensTo, lensF]
  rw [List.take_succ_eq_append_getElem hk, show n - k = (n - (k + 1)) + 1 by omega, List.replicate_succ]
  simp only [List.map_append, List.map_cons, List.map_nil, List.append_assoc]
  rw [List.set_append_right _ _ (by simp; omega)]
  simp [Nat.min_eq_left (Nat.le_of_lt hk)]
set_option maxRecDepth 100000 in
theorem lensTo_end (l : List F8) : lensTo l l.length l.length = lensF l := by simp [lensTo]
set_option maxRecDepth 100000 in
theorem intRow_size (zs : List Int) : (intRow zs).size = zs.length := by simp [intRow, intsC]
set_option maxRecDepth 100000 in
theorem lensTo_len {l : List F8} {n k : Nat} (hn : n = l.length) (hk : k ≤ n) : (lensTo l n k).length = n := by simp [lensTo, lensF]; omega
set_option maxRecDepth 100000 in
theorem ints_of_row {w : World} {g n : Nat} {t : TypeId} {zs : List Int} (h : w.heap[g]? = some (.cells (intRow zs) t (0, 0))) (hn : zs.length = n) : HasInts w (.slice (some ⟨g, 0, none⟩) n n) zs := by
  subst hn
  refine ⟨some ⟨g, 0, none⟩, _, rfl, (fun h => by cases h), fun ad had => ⟨Nat.le_refl _, fun j u hu => ?_⟩⟩
  cases had
  rw [Addr.add_lit, Nat.zero_add, cell_of_row w g j _ _ _ h]
  simpa [intRow] using hu
theorem infoInt8 : (Tryd.prog.info? 3).map (fun i => (i.zero, i.size, i.bytes)) = some (some (.int .i64 0), 1, 8) := by kernel_rfl
set_option maxRecDepth 100000 in
set_option maxHeartbeats 8000000 in
theorem sizes_any (w : World) (v : Value) (l : List F8) (hv : HasFiles w v l) (hl : l.length ≤ 200) (ht : totalB l ≤ 60000) :
    Calls Tryd.prog 19 #[v] w fun e w' => e = .returned (.tuple #[.slice (some ⟨w.heap.size, 0, none⟩) l.length l.length, .int .i64 (totalB l : Nat)]) ∧ HasInts w' (.slice (some ⟨w.heap.size, 0, none⟩) l.length l.length) (lensF l) ∧ Below w.heap.size w w' := by
  obtain ⟨i0, hi, hz0, hz1, hz2⟩ := info_parts infoInt8
  obtain ⟨n, hn⟩ : ∃ n, n = l.length := ⟨_, rfl⟩
  obtain ⟨ao, cap, rfl⟩ := files_shape hv n hn
  have HV := Lib.hid hv
  have HN := Lib.hid hn
  have HT := Lib.hid ht
  rw [← hn] at hl
  have HL := Lib.hid hl
  clear hn hv ht hl
  go_enter Tryd.func19, Tryd.ntmps19
  go_wp2_with (first | (refine wpList_make_full _ rfl (.tmp 9) (.tmp 9) 31 rfl w.heap.size 3 i0 (.int .i64 0) 1 Tryd.underlying31 hi hz0 hz1 .i64 .i64 (n : Int) (n : Int) n rfl rfl rfl rfl (by rw [hz2]; have := HL.out; omega) (by unfold maxLen; have := HL.out; omega) (Nat.le_refl _) ?_; intro w1 ho1 hg1; have HO1 := Lib.hid ho1; have HG1 := Lib.hid hg1; clear ho1 hg1))
  have HC1 := Lib.hid (made_ints HO1.out)
  have HB1 := Lib.hid (below_grown (Below.refl w.heap.size w) HG1.out (Nat.le_refl _) (fun k hk => by cases hk))
  clear HO1 HG1
  go_loopw [5, 13] (fun s i wr => ∃ k : Nat, k ≤ n ∧ i = .int .i64 k ∧ s = .int .i64 (totalB (l.take k) : Nat) ∧ wr.heap[w.heap.size]? = some (.cells (intRow (lensTo l n k)) 3 (0, 0)) ∧ Below w.heap.size w wr) (fun _ i _ => n - (intOf i).toNat)
  case atStart => exact ⟨0, Nat.zero_le _, rfl, rfl, by simpa [lensTo, lensF] using HC1.out, HB1.out⟩
  case round =>
    obtain ⟨k, hk, rfl, rfl, hrow, hb⟩ := hrel
    have HR := Lib.hid hrow
    have HB := Lib.hid hb
    by_cases hlt : k < n
    · obtain ⟨f, hf⟩ : ∃ f, l[k]? = some f := ⟨l[k]'(by have := HN.out; omega), List.getElem?_eq_getElem _⟩
      obtain ⟨ad, cap', u, e, c0, c1, ht⟩ := files_at (files_below HV.out hb) n k HN.out.symm f hf
      cases e
      obtain ⟨F1, F2⟩ := f
      obtain ⟨ao', cu, rfl⟩ := text_len ht F2.length rfl
      dsimp only at c0 c1
      have q0 : (k : Int) < (n : Int) := by omega
      clear hrow hb
      obtain ⟨m, hm⟩ : ∃ m, m = F2.length := ⟨_, rfl⟩
      obtain ⟨T, hT⟩ : ∃ T, T = totalB (l.take k) := ⟨_, rfl⟩
      have HTM := Lib.hid (show totalB (l.take (k + 1)) = T + m by rw [totalB_take l k _ hf, hT, hm])
      have ws := sum_small T m (by rw [← HTM.out]; exact Nat.le_trans (total_take l _) HT.out)
      have HS := Lib.hid (lensTo_set HN.out hf)
      have HI := Lib.hid (show k < (intRow (lensTo l n k)).size by rw [intRow_size, lensTo_len HN.out hk]; exact hlt)
      have HCK := Lib.hid (show k + 1 ≤ n from hlt)
      have hl := HL.out
      dsimp only at HS
      rw [← hm] at HS c1
      rw [← hT]
      obtain ⟨X, hX⟩ : ∃ X, X = lensTo l n (k + 1) := ⟨_, rfl⟩
      obtain ⟨Y, hY⟩ : ∃ Y, Y = lensTo l n k := ⟨_, rfl⟩
      rw [← hX, ← hY] at HS
      rw [← hY] at HI HR
      have HX := Lib.hid hX
      have HG := Lib.hid (show w.heap.size < wr.heap.size from (Array.getElem?_eq_some_iff.1 HR.out).1)
      clear hf ht hT hm hlt hk hX hY
      go_upto_region 6 with fail
      have H7 := heap_last wr (.cells #[.string (str F1), .slice ao' m cu] 33)
      have HG2 := Lib.hid (show (wr.alloc (.cells #[.string (str F1), .slice ao' m cu] 33)).heap[w.heap.size]? = some (.cells (intRow Y) 3 (0, 0)) by rw [heap_at_alloc, if_neg (by have := HG.out; omega)]; exact HR.out)
      have HB4 := Lib.hid (HB.out.alloc HB.out.size (.cells #[.string (str F1), .slice ao' m cu] 33))
      clear c0 c1
      generalize wr.alloc (.cells #[.string (str F1), .slice ao' m cu] 33) = w4 at *
      have c7 : w4.cell? ⟨wr.heap.size, 1, none⟩ = some (.slice ao' m cu) := cell_of_row w4 _ 1 _ _ _ H7
      clear H7
      obtain ⟨old, hold⟩ : ∃ old, (intRow Y)[k]? = some old := ⟨_, Array.getElem?_eq_getElem HI.out⟩
      have c8 := (cell_of_row w4 _ k _ _ _ HG2.out).trans hold
      have f8 := frozen_of_row w4 _ k _ _ HG2.out
      have HSC := Lib.hid (setCell_eq_setRow w4 w.heap.size k (intRow Y) 3 (0, 0) (.int .i64 (m : Int)) HG2.out)
      have H5 := Lib.hid (setRow_heap w4 w.heap.size (intRow Y) ((intRow Y).setIfInBounds k (.int .i64 (m : Int))) 3 (0, 0) HG2.out)
      have HB5 := Lib.hid (solo_under HB4.out (solo_setRow w4 w.heap.size ((intRow Y).setIfInBounds k (.int .i64 (m : Int)))) (Nat.le_refl _))
      clear hold
      go_wp2
      go_roundw
      case rel => have hck := HCK.out; exact ⟨k + 1, hck, by go_num, by rw [ws, HTM.out], by rw [HSC.out, ← HX.out, ← HS.out]; exact H5.out, by rw [HSC.out]; exact HB5.out⟩
      case measure => have hck := HCK.out; simp [intOf]; omega
    · obtain rfl : k = n := by omega
      have HE := Lib.hid (show l.take k = l from List.take_of_length_le (by rw [← HN.out]; omega))
      have HZ := Lib.hid (show lensTo l k k = lensF l by rw [HN.out]; exact lensTo_end l)
      have HLN := Lib.hid (show (lensF l).length = k by rw [lensF, List.length_map]; exact HN.out.symm)
      rw [HE.out]
      rw [HZ.out] at HR
      obtain ⟨T, hT⟩ : ∃ T, T = totalB l := ⟨_, rfl⟩
      rw [← hT]
      have HTT := Lib.hid hT
      clear hrow hb hlt hT
      go_wp2
      go_ret2
      exact ⟨by rw [← HTT.out, ← HN.out]; rfl, by rw [← HN.out]; exact ints_of_row HR.out HLN.out, HB.out⟩
end Go.Proofs.YtocpplnnnflekaaDoor
namespace Go.Proofs.YtocpplnnnflekaaDoor
open Go.RowKit
set_option maxHeartbeats 2000000 in
theorem check_any (b : List UInt8) (hb : b.length < 4611686018427387904) (v : Value) (w : World) (hv : HasText w v b) : Calls Tryd.prog 47 #[v] w fun e w' => e = .returned (.int .i64 (IntKind.i64.wrap (sumL b))) ∧ Below w.heap.size w w' := by
  have HV := Lib.hid hv
  obtain ⟨ao, cap, rfl, -⟩ := hv
  obtain ⟨n, hn⟩ : ∃ n, n = (b.map w8).length := ⟨_, rfl⟩
  rw [← hn] at HV ⊢
  have hnl : n = b.length := by rw [hn, List.length_map]
  have HN := Lib.hid hnl
  clear hn
  have hn : n < 4611686018427387904 := by omega
  clear hnl
  go_enter Tryd.func47, Tryd.ntmps47
  go_wp2
  go_loopw [3, 8] (fun s c wr => wr = w ∧ ∃ k : Nat, k ≤ n ∧ c = .int .i64 k ∧ s = .int .i64 (IntKind.i64.wrap (sumTo b k))) (fun _ c _ => n - (intOf c).toNat)
  case atStart => exact ⟨rfl, 0, by omega, rfl, by rw [sumTo_zero]; rfl⟩
  case round =>
    obtain ⟨rfl, k, hk, rfl, rfl⟩ := hrel
    by_cases hlt : k < n
    · have q0 : (k : Int) < (n : Int) := by omega
      obtain ⟨s, hs⟩ : ∃ s : Int, s = (sumTo b k : Int) := ⟨_, rfl⟩
      have HS := Lib.hid hs
      rw [← hs]
      clear hs
      obtain ⟨ad, c, rfl, hc, hcd, c0⟩ := text_at HV.out k (by rw [← HN.out]; exact hlt)
      obtain ⟨x, hx⟩ : ∃ x : Nat, x = c.toNat := ⟨_, rfl⟩
      have HX := Lib.hid hx
      rw [← hx] at c0
      have hx2 : (x : Int) < 256 := by have := UInt8.toNat_lt c; omega
      have HC := Lib.hid hcd
      clear hc hcd hx
      by_cases h1 : 148 ≤ k ∧ k ≤ 155
      · have d1 : decide ((148 : Int) ≤ (k : Int)) = true := decide_eq_true (by omega)
        have d2 : decide ((k : Int) < 156) = true := decide_eq_true (by omega)
        have HE := Lib.hid (show (sumTo b (k + 1) : Int) = s + 32 by rw [sumTo_succ, HS.out, sumAt, if_pos h1]; omega)
        have e1 := wrap_sum s 32
        clear hx2
        go_wp2
        go_roundw
        case rel => exact ⟨trivial, k + 1, by omega, by go_num, by rw [HE.out, IntKind.wrap_i64, wrap64]⟩
        case measure => simp [intOf]; omega
      · have HE := Lib.hid (show (sumTo b (k + 1) : Int) = s + (x : Int) by rw [sumTo_succ, HS.out, sumAt, if_neg h1, HC.out, HX.out]; omega)
        have e1 := wrap_sum s (x : Int)
        by_cases h2 : 148 ≤ k
        · have d1 : decide ((148 : Int) ≤ (k : Int)) = true := decide_eq_true (by omega)
          have d2 : decide ((k : Int) < 156) = false := decide_eq_false (by omega)
          go_wp2
          go_roundw
          case rel => exact ⟨trivial, k + 1, by omega, by go_num, by rw [HE.out, IntKind.wrap_i64, wrap64]⟩
          case measure => simp [intOf]; omega
        · have d1 : decide ((148 : Int) ≤ (k : Int)) = false := decide_eq_false (by omega)
          go_wp2
          go_roundw
          case rel => exact ⟨trivial, k + 1, by omega, by go_num, by rw [HE.out, IntKind.wrap_i64, wrap64]⟩
          case measure => simp [intOf]; omega
    · obtain rfl : k = n := by omega
      go_wp2
      go_ret
      exact ⟨by rw [HN.out]; rfl, Below.refl _ _⟩
end Go.Proofs.YtocpplnnnflekaaDoor
namespace Go.Proofs.YtocpplnnnflekaaDoor
open Go.RowKit
/-- A text copied to the head of a block of bytes 0. -/
theorem copy_str {P : Program} {w : World} {ops : Array Oper} {rest : List Oper} {o : Oper} {a : Act} {Q : Exit → Act → World → Prop} (hgd : o.guard = none) (d s : Operand) (dT sT : TypeId)
    (ho : o.op = .call { callee := .builtin .copy, args := #[d, s], argTypes := #[dT, sT] }) (elem : TypeId) (hu : P.underlying dT = some (.slice elem)) (hsz : (P.info? elem).map (·.size) = some 1)
    (g n cap : Nat) (hd : a.eval d = .slice (some ⟨g, 0, none⟩) n cap) (l : List UInt8) (hs : a.eval s = .string (str l)) (t : TypeId) (hg : w.heap[g]? = some (.cells (byteRow (List.replicate n 0)) t (0, 0))) (hle : l.length ≤ n)
    (h : ∀ w', w'.heap[g]? = some (.cells (byteRow (l ++ List.replicate (n - l.length) 0)) t (0, 0)) → Solo g w w' → wpList P ops Q rest (a.put o.dst (goInt l.length)) w') : wpList P ops Q (o :: rest) a w := by
  refine wpList_plain hgd fun K hK => ?_
  have hrun := Lib.run_copy_row_string (P := P) w dT sT o.type elem g 0 n cap (str l) _ t hu hsz hg (by rw [str_size]; exact hle) (by rw [str_size, byteRow_size, List.length_replicate]; omega)
  have e : ((byteRow (List.replicate n 0)).toList.take 0 ++ Lib.byteCells (str l).data.toList ++ (byteRow (List.replicate n 0)).toList.drop (0 + (str l).size)).toArray = byteRow (l ++ List.replicate (n - l.length) 0) := by
    rw [str_size]
    simp [byteRow, str, Lib.byteCells]
  rw [e, str_size] at hrun
  unfold Oper.wp
  simp [execOp, ho, resolve, invoke, builtin, hd, hs, hrun, Result.andThen]
  exact hK _ _ (h _ (setRow_heap w g _ _ t _ hg) (solo_setRow w g _))
theorem index_zero (s : List UInt8) : ∃ z, Lib.indexByte (str s).data.toList ((0 : Int).toNat.toUInt8) = z ∧ decide (z ≥ 0) = s.contains 0 := by
  refine ⟨_, rfl, ?_⟩
  rw [show (str s).data.toList = s from by simp [str], show (0 : Int).toNat.toUInt8 = 0 from rfl]
  have hge := Lib.indexByte_ge s 0
  by_cases h : Lib.indexByte s 0 = -1
  · rw [h, Bool.eq_iff_iff]
    constructor
    · intro h; exact absurd h (by decide)
    · intro hc
      obtain ⟨k, hk, e⟩ := List.mem_iff_getElem.1 (List.contains_iff_mem.1 hc)
      exact absurd (by rw [List.getElem?_eq_getElem hk, e]) (Lib.indexByte_none h k)
  · obtain ⟨o, ho⟩ : ∃ o : Nat, Lib.indexByte s 0 = (o : Int) := ⟨(Lib.indexByte s 0).toNat, by omega⟩
    have := (Lib.indexByte_some ho).1
    rw [ho, List.contains_iff_mem.2 (List.mem_of_getElem? this)]
    exact decide_eq_true (by omega)
set_option maxRecDepth 100000 in
set_option maxHeartbeats 4000000 in
theorem text_any (s : List UInt8) (width : Int) (hw1 : -9223372036854775808 ≤ width) (hw2 : width < 9223372036854775808) (w : World) :
    Calls Tryd.prog 45 #[.string (str s), .int .i64 width] w fun e w' => ∃ v, e = .returned (.tuple #[v, .int .i64 (fieldErr s width)]) ∧ HasText w' v (fieldT s width) ∧ Below w.heap.size w w' := by
  obtain ⟨i0, hi, hz0, hz1, hz2⟩ := info_parts infoByte
  have hsz : (str s).size = s.length := str_size s
  by_cases h1 : width < 1
  · have HF := Lib.hid (show fieldErr s width = 1 from (fieldErr_width s width).2 (.inl h1))
    have d1 : decide (width < 1) = true := decide_eq_true h1
    clear h1 hw1 hw2
    go_enter Tryd.func45, Tryd.ntmps45
    go_wp2
    go_ret2
    rw [HF.out, field_bad HF.out (by decide)]
    exact ⟨_, rfl, hasText_nil _, Below.refl _ _⟩
  · have d1 : decide (width < 1) = false := decide_eq_false h1
    by_cases h255 : 255 < width
    · have HF := Lib.hid (show fieldErr s width = 1 from (fieldErr_width s width).2 (.inr h255))
      have d2 : decide (width > 255) = true := decide_eq_true h255
      clear h1 h255 hw1 hw2
      go_enter Tryd.func45, Tryd.ntmps45
      go_wp2
      go_ret2
      rw [HF.out, field_bad HF.out (by decide)]
      exact ⟨_, rfl, hasText_nil _, Below.refl _ _⟩
    · obtain ⟨m, rfl⟩ : ∃ m : Nat, width = (m : Int) := ⟨width.toNat, by omega⟩
      have d2 : decide ((m : Int) > 255) = false := decide_eq_false (by omega)
      have HM := Lib.hid (show 1 ≤ m ∧ m ≤ 255 by omega)
      obtain ⟨z, hz, hzc⟩ := index_zero s
      have I1 := Lib.hid (show ∀ w, Calls Tryd.prog 56 #[.string (str s), .int .u8 0] w fun e w' => e = .returned (.int .i64 z) ∧ w = w' from fun w => by
        refine (Tryd.strings_IndexByte (str s) 0 w).mono fun e w' h => ?_
        rw [hz] at h; exact ⟨h.1, h.2.symm⟩)
      clear hz h1 h255 hw1 hw2
      obtain ⟨n, hn⟩ : ∃ n, n = s.length := ⟨_, rfl⟩
      have HN := Lib.hid hn
      rw [← hn] at hsz
      clear hn
      by_cases hc : s.contains 0 = true
      · have HF := Lib.hid (show fieldErr s (m : Int) = 2 by rw [fieldErr, if_neg (by have := HM.out; omega), if_pos hc])
        rw [hc] at hzc
        clear hc
        go_enter Tryd.func45, Tryd.ntmps45
        go_wp2_with (first | (go_at_call 56; refine (I1.out _).mono ?_; rintro e w1 ⟨rfl, rfl⟩))
        go_ret2
        rw [HF.out, field_bad HF.out (by decide)]
        exact ⟨_, rfl, hasText_nil _, Below.refl _ _⟩
      · rw [Bool.not_eq_true] at hc
        by_cases hov : m < n
        · have HF := Lib.hid (show fieldErr s (m : Int) = 8 by rw [fieldErr, if_neg (by have := HM.out; omega), hc, if_neg (by decide), if_pos (by rw [← HN.out]; omega)])
          have q0 : (m : Int) < (n : Int) := by omega
          rw [hc] at hzc
          clear hc hov
          go_enter Tryd.func45, Tryd.ntmps45
          go_wp2_with (first | (go_at_call 56; refine (I1.out _).mono ?_; rintro e w1 ⟨rfl, rfl⟩))
          go_ret2
          rw [HF.out, field_bad HF.out (by decide)]
          exact ⟨_, rfl, hasText_nil _, Below.refl _ _⟩
        · have HF := Lib.hid (show fieldErr s (m : Int) = 0 from (fieldErr_ok _ _).2 ⟨by have := HM.out; omega, by have := HM.out; omega, hc, by rw [← HN.out]; omega⟩)
          have HE := Lib.hid (show fieldT s (m : Int) = s ++ List.replicate (m - s.length) 0 by rw [fieldT, if_pos HF.out, Int.toNat_natCast])
          have q0 : ¬ (n : Int) > (m : Int) := by omega
          rw [hc] at hzc
          have HL := Lib.hid (show s.length ≤ m by rw [← HN.out]; omega)
          clear hc hov
          go_enter Tryd.func45, Tryd.ntmps45
          go_wp2_with (first
            | (go_at_call 56; refine (I1.out _).mono ?_; rintro e w1 ⟨rfl, rfl⟩)
            | (refine wpList_make_full _ rfl (.tmp 20) (.tmp 20) 25 rfl w.heap.size 5 i0 (.int .u8 0) 1 Tryd.underlying25 hi hz0 hz1 .i64 .i64 (m : Int) (m : Int) m rfl rfl rfl rfl (by rw [hz2]; have := HM.out; omega) (by unfold maxLen; have := HM.out; omega) (Nat.le_refl _) ?_; intro w1 ho1 hg1; have HC1 := Lib.hid (made_row ho1); have HB1 := Lib.hid (below_grown (Below.refl w.heap.size w) hg1 (Nat.le_refl _) (fun k hk => by cases hk)); clear ho1 hg1)
            | (refine copy_str rfl (.tmp 22) (.tmp 23) 25 9 rfl 5 Tryd.underlying25 (by kernel_rfl) w.heap.size m m rfl s rfl 5 HC1.out HL.out ?_; intro w2 hg2 hs2; have HC2 := Lib.hid hg2; have HB2 := Lib.hid (solo_under HB1.out hs2 (Nat.le_refl _)); clear hg2 hs2))
          go_ret2
          rw [HF.out, HE.out]
          exact ⟨_, rfl, text_of_row HC2.out (by rw [List.length_append, List.length_replicate]; have := HL.out; omega), HB2.out⟩
end Go.Proofs.YtocpplnnnflekaaDoor
namespace Go.Proofs.YtocpplnnnflekaaDoor
theorem octalFace : OctalFace where
  put := fun w n width h1 h2 _ _ => put_any n width h1 h2 w
  get := fun w v b hb hv => get_any b hb v w hv
  text := fun w s width _ h1 h2 => text_any s width h1 h2 w
  check := fun w v b hb hv => check_any b hb v w hv
end Go.Proofs.YtocpplnnnflekaaDoor
