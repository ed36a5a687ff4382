/-
What package octal answers, walked over the landed code: Name (and the library's trim of bytes 0 behind).
-/
import Derived.Test.YtbjekhhefepnlaaDoorOctalText
import Derived.Test.YtbjekhhefepnlaaDoorOctalCheck
namespace Go.Proofs.YtbjekhhefepnlaaDoor
open Go.RowKit
set_option maxHeartbeats 4000000 in
theorem trimByte_any (b : List UInt8) (ao : Option Addr) (n cap : Nat) (hnb : n = b.length) (hn : n < 4611686018427387904) (w : World) (hv : HasText w (.slice ao n cap) b) : Calls Tryd.prog 45 #[.slice ao n cap, .int .u8 0] w fun e w' => ∃ k, e = .returned (.slice ao k cap) ∧ w = w' ∧ k ≤ n ∧ (∀ j, k ≤ j → j < n → b.getD j 0 = 0) ∧ (k = 0 ∨ b.getD (k - 1) 0 ≠ 0) := by
  have HV := Lib.hid hv
  have HN := Lib.hid (And.intro hnb hn)
  clear hv hnb hn
  go_enter Tryd.func45, Tryd.ntmps45
  go_wp2
  go_loopw [0] (fun v wr => wr = w ∧ ∃ k : Nat, k ≤ n ∧ v = .slice ao k cap ∧ ∀ j, k ≤ j → j < n → b.getD j 0 = 0) (fun v _ => match v with | .slice _ l _ => l | _ => 0)
  case atStart => exact ⟨rfl, n, by omega, rfl, fun j h1 h2 => by omega⟩
  case round =>
    obtain ⟨rfl, k, hk, rfl, hall⟩ := hrel
    have HA := Lib.hid hall
    clear hall
    by_cases h0 : k = 0
    · have d1 : decide ((k : Int) > 0) = false := decide_eq_false (by omega)
      go_wp2
      go_ret
      exact ⟨k, rfl, rfl, hk, HA.out, .inl h0⟩
    · obtain ⟨p, hp⟩ : ∃ p : Nat, p = k - 1 := ⟨_, rfl⟩
      have d1 : decide ((k : Int) > 0) = true := decide_eq_true (by omega)
      have e1 : (k : Int) - 1 = (p : Int) := by omega
      have e2 : wrap64 (p : Int) = (p : Int) := by have := HN.out; rw [wrap64]; omega
      have e3 : IntKind.i64.wrap (p : Int) = (p : Int) := by have := HN.out; rw [IntKind.wrap_i64]; omega
      have q0 : (p : Int) < (k : Int) := by omega
      have hpk : p + 1 = k := by omega
      have HP := Lib.hid hpk
      have HK := Lib.hid (And.intro hk h0)
      obtain ⟨ad, c, rfl, hc, hcd, c0⟩ := text_at HV.out p (by have := HN.out; omega)
      have qc : (p : Int) ≤ (cap : Int) := by have := text_cap HV.out; omega
      obtain ⟨x, hx⟩ : ∃ x : Nat, x = c.toNat := ⟨_, rfl⟩
      have HX := Lib.hid hx
      rw [← hx] at c0
      have HC := Lib.hid hcd
      clear hc hcd hx hp hpk h0 hk
      by_cases hz : x = 0
      · subst hz
        go_wp2
        go_roundw
        case rel => exact ⟨trivial, p, by have := HK.out; have := HP.out; omega, rfl, fun j h1 h2 => by
          rcases Nat.lt_or_ge j k with h | h
          · obtain rfl : j = p := by have := HP.out; omega
            rw [HC.out]; exact UInt8.toNat_inj.1 HX.out.symm
          · exact HA.out j h h2⟩
        case measure => have := HP.out; simp; omega
      · have d2 : ((x : Int) == 0) = false := by simp; omega
        have HZ := Lib.hid hz
        clear hz
        go_wp2
        go_ret
        exact ⟨k, rfl, rfl, HK.out.1, HA.out, .inr (by
          rw [show k - 1 = p from by have := HP.out; omega, HC.out]; intro h; rw [h] at HX; exact HZ.out HX.out)⟩
set_option maxHeartbeats 4000000 in
theorem trim_any (b : List UInt8) (ao : Option Addr) (n cap : Nat) (hnb : n = b.length) (hn : n < 4611686018427387904) (w : World) (hv : HasText w (.slice ao n cap) b) : Calls Tryd.prog 38 #[.slice ao n cap, .string ⟨#[0]⟩] w fun e w' => ∃ k, e = .returned (.slice ao k cap) ∧ w = w' ∧ k ≤ n ∧ (∀ j, k ≤ j → j < n → b.getD j 0 = 0) ∧ (k = 0 ∨ b.getD (k - 1) 0 ≠ 0) := by
  have T := Lib.hid (fun w hv => trimByte_any b ao n cap hnb hn w hv)
  have HV := Lib.hid hv
  clear hv hnb hn
  by_cases h0 : n = 0
  · have d1 : ((n : Int) == 0) = true := by simp; omega
    go_enter Tryd.func38, Tryd.ntmps38
    go_wp2
    go_ret
    exact ⟨n, rfl, rfl, Nat.le_refl _, fun j h1 h2 => by omega, .inl h0⟩
  · have d1 : ((n : Int) == 0) = false := by simp; omega
    clear h0
    obtain ⟨S, hS⟩ : ∃ S : ByteArray, S = ⟨#[0]⟩ := ⟨_, rfl⟩
    rw [← hS]
    have s1 : S.size = 1 := by rw [hS]; rfl
    have s2 : S.toList.isEmpty = false := by rw [hS, show (⟨#[0]⟩ : ByteArray).toList = [0] from str_toList [0]]; rfl
    have s3 : ∀ w, (Instr.index 9 (.string S) (.int .i64 0)).run Tryd.prog w = .ok (.int .u8 0) w := fun w => by
      rw [hS]; exact index_str (P := Tryd.prog) w [0] .i64 0 0 rfl Tryd.underlying9
    clear hS
    go_enter Tryd.func38, Tryd.ntmps38
    go_wp2_with (first | (go_at_call 45; refine (T.out _ HV.out).mono ?_; rintro e w1 ⟨k, rfl, rfl, hk1, hk2, hk3⟩; have HK := Lib.hid (And.intro hk1 (And.intro hk2 hk3)); clear hk1 hk2 hk3))
    go_ret
    exact ⟨k, rfl, rfl, HK.out.1, HK.out.2.1, HK.out.2.2⟩
theorem name_facts (b : List UInt8) (k : Nat) (hk : k ≤ b.length) (hz : ∀ j, k ≤ j → j < b.length → b.getD j 0 = 0) (hl : k = 0 ∨ b.getD (k - 1) 0 ≠ 0) :
    ((b.take k).contains 0 = false → nameT b = b.take k ∧ nameErr b = 0) ∧ ((b.take k).contains 0 = true → nameT b = [] ∧ nameErr b = 2) := by
  have take_at : ∀ j, j < k → (b.take k)[j]? = some (b.getD j 0) := fun j hj => by
    rw [List.getElem?_take, if_pos hj, List.getD_eq_getElem?_getD, List.getElem?_eq_getElem (by omega)]; rfl
  constructor
  · intro hc
    refine isName_of b k hk (fun j hj h => ?_) (fun h => hz k (Nat.le_refl k) h) hz
    have h1 := List.contains_iff_mem.2 (List.mem_of_getElem? (take_at j hj))
    rw [h, hc] at h1; cases h1
  · intro hc
    have hne : Lib.indexByte (b.take k) 0 ≠ -1 := fun h => by
      obtain ⟨j, hj, e⟩ := List.mem_iff_getElem.1 (List.contains_iff_mem.1 hc)
      exact Lib.indexByte_none h j (by rw [List.getElem?_eq_getElem hj, e])
    have hge := Lib.indexByte_ge (b.take k) 0
    obtain ⟨o, ho⟩ : ∃ o : Nat, Lib.indexByte (b.take k) 0 = (o : Int) := ⟨(Lib.indexByte (b.take k) 0).toNat, by omega⟩
    obtain ⟨h1, h2⟩ := Lib.indexByte_some ho
    have hok : o < k := by
      have := (List.getElem?_eq_some_iff.1 h1).1
      rw [List.length_take] at this; omega
    refine isName_bad b o (k - 1) (by omega) (by omega) (fun j hj h => h2 j hj (by rw [take_at j (by omega), h])) (fun _ => ?_) (hl.resolve_left (by omega))
    rw [take_at o hok] at h1; exact Option.some.inj h1
theorem index_text {w : World} {ao : Option Addr} {k cap : Nat} {l : List UInt8} (h : HasText w (.slice ao k cap) l) : ∃ z, (decide (z ≥ 0) = l.contains 0) ∧ Calls Tryd.prog 39 #[.slice ao k cap, .int .u8 0] w fun e w' => e = .returned (.int .i64 z) ∧ w = w' := by
  obtain ⟨z, hz, hzc⟩ := index_zero l
  rw [show (str l).data.toList = l from by simp [str]] at hz
  refine ⟨z, hzc, ?_⟩
  obtain ⟨ao', cap', e, hnil, hc⟩ := h
  cases e
  cases ao with
  | none =>
    obtain ⟨hl, rfl⟩ := hnil rfl
    obtain rfl : l = [] := by simpa using hl
    refine (Tryd.bytes_IndexByte_nil 0 w).mono fun e w' h => ⟨?_, h.2.symm⟩
    rw [h.1, ← hz]; rfl
  | some ad =>
    have hl : (l.map w8).length = l.length := List.length_map _
    have hb : Lib.bytesOf (l.map fun c => (c.toNat : Int)) = l := by simp [Lib.bytesOf, Function.comp_def]
    refine (Tryd.bytes_IndexByte_at ad _ cap (l.map fun c => (c.toNat : Int)) 0 w (by simp) fun i hi => ?_).mono fun e w' h => ⟨?_, h.2.symm⟩
    · refine (hc ad rfl).2 i _ ?_
      rw [hl] at hi
      rw [bytesL_map]
      simp [hi]
    · rw [h.1, hb, hz]
set_option maxHeartbeats 4000000 in
theorem name_any (b : List UInt8) (hb : b.length < 4611686018427387904) (v : Value) (w : World) (hv : HasText w v b) : Calls Tryd.prog 23 #[v] w fun e w' => e = .returned (.tuple #[.string (str (nameT b)), .int .i64 (nameErr b)]) ∧ Below w.heap.size w w' := by
  have HV := Lib.hid hv
  obtain ⟨ao, cap, rfl, -⟩ := hv
  obtain ⟨n, hn⟩ : ∃ n, n = (b.map w8).length := ⟨_, rfl⟩
  rw [← hn] at HV ⊢
  have hnl : n = b.length := by rw [hn, List.length_map]
  have HN := Lib.hid hnl
  have T := Lib.hid (trim_any b ao n cap hnl (by omega) w HV.out)
  clear hn hnl hb
  go_enter Tryd.func23, Tryd.ntmps23
  go_upto_region 2 with (first | (go_at_call 38; refine T.out.mono ?_; rintro e w1 ⟨k, rfl, rfl, hk1, hk2, hk3⟩; have HK := Lib.hid (And.intro hk1 (And.intro hk2 hk3)); clear hk1 hk2 hk3))
  have HT := Lib.hid (text_take HV.out k (by rw [← HN.out]; exact HK.out.1))
  obtain ⟨z, hz, hI⟩ := index_text HT.out
  have I := Lib.hid hI
  obtain ⟨g1, g2⟩ := name_facts b k (by rw [← HN.out]; exact HK.out.1) (by rw [← HN.out]; exact HK.out.2.1) HK.out.2.2
  have hcv := conv_text Tryd.underlying22 Tryd.underlying5 Tryd.underlying9 HT.out
  obtain ⟨B, hB⟩ : ∃ B, B = (b.take k).contains 0 := ⟨_, rfl⟩
  rw [← hB] at hz g1 g2
  clear hB hI
  cases B with
  | false =>
    have HF := Lib.hid (g1 rfl)
    clear g1 g2
    go_wp2_with (first | (go_at_call 39; refine I.out.mono ?_; rintro e w1 ⟨rfl, rfl⟩))
    go_ret2
    rw [HF.out.1, HF.out.2]
    exact ⟨rfl, Below.refl _ _⟩
  | true =>
    have HF := Lib.hid (g2 rfl)
    clear g1 g2 hcv
    go_wp2_with (first | (go_at_call 39; refine I.out.mono ?_; rintro e w1 ⟨rfl, rfl⟩))
    go_ret2
    rw [HF.out.1, HF.out.2]
    exact ⟨rfl, Below.refl _ _⟩
end Go.Proofs.YtbjekhhefepnlaaDoor
