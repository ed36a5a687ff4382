/-
What the document's own answers for layer 5 return: Check and Name.
-/
import Derived.Test.YtbjekhhefepnlaaDoorOctal
import Derived.Test.YtbjekhhefepnlaaDoorProg
import Derived.StillTailTactics
import Derived.WalkKit
import Derived.Lib.Hide
import Derived.Deep.RegionWith
import Derived.WalkLawsBesides
namespace Go.Proofs.YtbjekhhefepnlaaDoor
open Go.RowKit
/-- A byte of a text in memory. -/
theorem text_at {w : World} {ao : Option Addr} {n cap : Nat} {l : List UInt8} (h : HasText w (.slice ao n cap) l) (k : Nat) (hk : k < l.length) : ∃ ad c, ao = some ad ∧ l[k]? = some c ∧ l.getD k 0 = c ∧ w.cell? (ad.add k) = some (.int .u8 (c.toNat : Int)) := by
  obtain ⟨ao', cap', e, hnil, hc⟩ := h
  cases e
  cases ao with
  | none => obtain ⟨hl, _⟩ := hnil rfl; simp at hl; subst hl; simp at hk
  | some ad =>
    refine ⟨ad, l[k], rfl, by simp [hk], by simp [hk], (hc ad rfl).2 k _ ?_⟩
    rw [bytesL_map]; simp [hk]
theorem wrap_sum (a b : Int) : IntKind.i64.wrap (IntKind.i64.wrap a + b) = IntKind.i64.wrap (a + b) := by
  rw [IntKind.wrap_i64, IntKind.wrap_i64, IntKind.wrap_i64]
  generalize (18446744073709551616 : Int) = M
  generalize (9223372036854775808 : Int) = H
  rw [show (a + H) % M - H + b + H = (a + H) % M + b from by omega, Int.emod_add_emod]
  congr 2
  omega
set_option maxHeartbeats 2000000 in
theorem refCheck_any (b : List UInt8) (hb : b.length < 4611686018427387904) (v : Value) (w : World) (hv : HasText w v b) : Calls Tryd.prog 14 #[v] w fun e w' => e = .returned (.int .i64 (IntKind.i64.wrap (sumL b))) ∧ w = w' := by
  have HV := Lib.hid hv
  obtain ⟨ao, cap, rfl, -⟩ := hv
  obtain ⟨n, hn⟩ : ∃ n, n = (b.map w8).length := ⟨_, rfl⟩
  rw [← hn] at HV ⊢
  have hnl : n = b.length := by rw [hn, List.length_map]
  have HN := Lib.hid hnl
  clear hn
  have hn : n < 4611686018427387904 := by omega
  clear hnl
  go_enter Tryd.func14, Tryd.ntmps14
  go_wp2
  go_loopw [3, 4] (fun s c wr => wr = w ∧ ∃ k : Nat, k ≤ n ∧ c = .int .i64 k ∧ s = .int .i64 (IntKind.i64.wrap (sumTo b k))) (fun _ c _ => n - (intOf c).toNat)
  case atStart => exact ⟨rfl, 0, by omega, rfl, by rw [sumTo_zero]; rfl⟩
  case round =>
    obtain ⟨rfl, k, hk, rfl, rfl⟩ := hrel
    by_cases hlt : k < n
    · have q0 : (k : Int) < (n : Int) := by omega
      obtain ⟨s, hs⟩ : ∃ s : Int, s = (sumTo b k : Int) := ⟨_, rfl⟩
      have HS := Lib.hid hs
      rw [← hs]
      clear hs
      by_cases h1 : 148 ≤ k ∧ k ≤ 155
      · have d1 : decide ((k : Int) ≥ 148) = true := decide_eq_true (by omega)
        have d2 : decide ((k : Int) ≤ 155) = true := decide_eq_true (by omega)
        have HE := Lib.hid (show (sumTo b (k + 1) : Int) = s + 32 by rw [sumTo_succ, HS.out, sumAt, if_pos h1]; omega)
        have e1 := wrap_sum s 32
        go_wp2
        go_roundw
        case rel => exact ⟨trivial, k + 1, by omega, by go_num, by rw [HE.out, IntKind.wrap_i64, wrap64]⟩
        case measure => simp [intOf]; omega
      · obtain ⟨ad, c, rfl, hc, hcd, c0⟩ := text_at HV.out k (by rw [← HN.out]; exact hlt)
        have HE := Lib.hid (show (sumTo b (k + 1) : Int) = s + (c.toNat : Int) by rw [sumTo_succ, HS.out, sumAt, if_neg h1, hcd]; omega)
        obtain ⟨x, hx⟩ : ∃ x : Nat, x = c.toNat := ⟨_, rfl⟩
        rw [← hx] at c0 HE
        have hx2 : (x : Int) < 256 := by have := UInt8.toNat_lt c; omega
        have e1 := wrap_sum s (x : Int)
        clear hc hcd hx
        by_cases h2 : 148 ≤ k
        · have d1 : decide ((k : Int) ≥ 148) = true := decide_eq_true (by omega)
          have d2 : decide ((k : Int) ≤ 155) = false := decide_eq_false (by omega)
          go_wp2
          go_roundw
          case rel => exact ⟨trivial, k + 1, by omega, by go_num, by rw [HE.out, IntKind.wrap_i64, wrap64]⟩
          case measure => simp [intOf]; omega
        · have d1 : decide ((k : Int) ≥ 148) = false := decide_eq_false (by omega)
          go_wp2
          go_roundw
          case rel => exact ⟨trivial, k + 1, by omega, by go_num, by rw [HE.out, IntKind.wrap_i64, wrap64]⟩
          case measure => simp [intOf]; omega
    · obtain rfl : k = n := by omega
      go_wp2
      go_ret
      exact ⟨by rw [HN.out]; rfl, rfl⟩
/-- What stands ahead of the first byte 0. -/
theorem head_split (b : List UInt8) (k : Nat) (hk : k ≤ b.length) (h1 : ∀ j, j < k → b.getD j 0 ≠ 0) (h2 : k < b.length → b.getD k 0 = 0) : headL b = b.take k ∧ b.dropWhile (· != 0) = b.drop k := by
  induction k generalizing b with
  | zero =>
    cases b with
    | nil => exact ⟨rfl, rfl⟩
    | cons a b =>
      have : a = 0 := h2 (by simp)
      subst this
      exact ⟨rfl, rfl⟩
  | succ k ih =>
    cases b with
    | nil => simp at hk
    | cons a b =>
      have ha : (a != 0) = true := by have := h1 0 (by omega); simpa using this
      obtain ⟨i1, i2⟩ := ih b (by simpa using hk) (fun j hj => by have := h1 (j + 1) (by omega); simpa using this) (fun h => by have := h2 (by simpa using h); simpa using this)
      unfold headL at i1 ⊢
      rw [List.takeWhile_cons, if_pos ha, List.dropWhile_cons, if_pos ha, i1, i2]
      exact ⟨rfl, rfl⟩
theorem isName_of (b : List UInt8) (k : Nat) (hk : k ≤ b.length) (h1 : ∀ j, j < k → b.getD j 0 ≠ 0) (h2 : k < b.length → b.getD k 0 = 0) (h3 : ∀ j, k ≤ j → j < b.length → b.getD j 0 = 0) : nameT b = b.take k ∧ nameErr b = 0 := by
  obtain ⟨e1, e2⟩ := head_split b k hk h1 h2
  have : isName b = true := by
    rw [isName, e2, List.all_eq_true]
    intro c hc
    obtain ⟨j, hj, rfl⟩ := List.mem_iff_getElem.1 hc
    rw [List.length_drop] at hj
    have := h3 (k + j) (by omega) (by omega)
    rw [List.getD_eq_getElem?_getD, List.getElem?_eq_getElem (by omega), Option.getD_some] at this
    simp [List.getElem_drop, this]
  rw [nameT, nameErr, if_pos this, if_pos this, e1]
  exact ⟨rfl, rfl⟩
theorem isName_bad (b : List UInt8) (k i : Nat) (hk : k ≤ i) (hi : i < b.length) (h1 : ∀ j, j < k → b.getD j 0 ≠ 0) (h2 : k < b.length → b.getD k 0 = 0) (h3 : b.getD i 0 ≠ 0) : nameT b = [] ∧ nameErr b = 2 := by
  obtain ⟨e1, e2⟩ := head_split b k (by omega) h1 h2
  have : isName b = false := by
    rw [isName, e2, Bool.eq_false_iff, ne_eq, List.all_eq_true]
    intro h
    rw [List.getD_eq_getElem?_getD, List.getElem?_eq_getElem hi, Option.getD_some] at h3
    have hm : b[i] ∈ b.drop k := List.mem_iff_getElem.2 ⟨i - k, by rw [List.length_drop]; omega, by rw [List.getElem_drop]; congr 1; omega⟩
    have := h _ hm
    simp at this
    exact h3 this
  rw [nameT, nameErr, this]
  exact ⟨rfl, rfl⟩
theorem text_take {w : World} {ao : Option Addr} {n cap : Nat} {l : List UInt8} (h : HasText w (.slice ao n cap) l) (k : Nat) (hk : k ≤ l.length) : HasText w (.slice ao k cap) (l.take k) := by
  obtain ⟨ao', cap', e, hnil, hc⟩ := h
  cases e
  have hl : ((l.take k).map w8).length = k := by rw [List.length_map, List.length_take]; omega
  refine ⟨ao, cap, by rw [hl], fun h => ?_, fun ad had => ⟨?_, fun j u hu => (hc ad had).2 j u ?_⟩⟩
  · obtain ⟨h1, h2⟩ := hnil h
    simp at h1; subst h1; exact ⟨by simp, h2⟩
  · have := (hc ad had).1
    rw [List.length_map] at this; omega
  · rw [bytesL_map] at hu ⊢
    rw [List.getElem?_map, List.getElem?_take] at hu
    rw [List.getElem?_map]
    split at hu
    · exact hu
    · cases hu
theorem text_cap {w : World} {ao : Option Addr} {n cap : Nat} {l : List UInt8} (h : HasText w (.slice ao n cap) l) : n = l.length ∧ n ≤ cap := by
  obtain ⟨ao', cap', e, hnil, hc⟩ := h
  cases e
  cases ao with
  | none => obtain ⟨h1, h2⟩ := hnil rfl; simp at h1; subst h1; exact ⟨rfl, by simp⟩
  | some ad => exact ⟨by rw [List.length_map], (hc ad rfl).1⟩
set_option maxHeartbeats 4000000 in
theorem refName_any (b : List UInt8) (hb : b.length < 4611686018427387904) (v : Value) (w : World) (hv : HasText w v b) : Calls Tryd.prog 27 #[v] w fun e w' => e = .returned (.tuple #[.string (str (nameT b)), .int .i64 (nameErr b)]) ∧ w = w' := by
  have HV := Lib.hid hv
  obtain ⟨ao, cap, rfl, -⟩ := hv
  obtain ⟨n, hn⟩ : ∃ n, n = (b.map w8).length := ⟨_, rfl⟩
  rw [← hn] at HV ⊢
  have hnl : n = b.length := by rw [hn, List.length_map]
  have HN := Lib.hid hnl
  clear hn
  have hn : n < 4611686018427387904 := by omega
  clear hnl
  go_enter Tryd.func27, Tryd.ntmps27
  go_wp2
  go_loopw [4] (fun c wr => wr = w ∧ ∃ k : Nat, k ≤ n ∧ c = .int .i64 k ∧ ∀ j, j < k → b.getD j 0 ≠ 0) (fun c _ => n - (intOf c).toNat)
  case atStart => exact ⟨rfl, 0, by omega, rfl, fun j hj => by omega⟩
  case round =>
    obtain ⟨rfl, k, hk, rfl, hall⟩ := hrel
    have HA := Lib.hid hall
    clear hall
    have second : (k < n → b.getD k 0 = 0) → True := fun _ => trivial
    by_cases hlt : k < n
    · have q0 : (k : Int) < (n : Int) := by omega
      obtain ⟨ad, c, rfl, hc, hcd, c0⟩ := text_at HV.out k (by rw [← HN.out]; exact hlt)
      have HC := Lib.hid hcd
      obtain ⟨x, hx⟩ : ∃ x : Nat, x = c.toNat := ⟨_, rfl⟩
      rw [← hx] at c0
      have HX := Lib.hid hx
      clear hc hcd hx
      by_cases hz : x = 0
      · subst hz
        have HK := Lib.hid (show k < n → b.getD k 0 = 0 from fun _ => by rw [HC.out]; exact UInt8.toNat_inj.1 HX.out.symm)
        go_wp2
        go_loopw [5] (fun c wl => wl = wr ∧ ∃ i : Nat, k ≤ i ∧ i ≤ n ∧ c = .int .i64 i ∧ ∀ j, k ≤ j → j < i → b.getD j 0 = 0) (fun c _ => n - (intOf c).toNat)
        case atStart => exact ⟨rfl, k, by omega, by omega, rfl, fun j h1 h2 => by omega⟩
        case round =>
          obtain ⟨rfl, i, hki, hi, rfl, hzz⟩ := hrel
          have HZ := Lib.hid hzz
          clear hzz
          by_cases hil : i < n
          · have q1 : (i : Int) < (n : Int) := by omega
            obtain ⟨ad1, c1, ea, hc1, hcd1, c10⟩ := text_at HV.out i (by rw [← HN.out]; exact hil)
            obtain rfl : ad1 = ad := (Option.some.inj ea).symm
            have HC1 := Lib.hid hcd1
            obtain ⟨y, hy⟩ : ∃ y : Nat, y = c1.toNat := ⟨_, rfl⟩
            rw [← hy] at c10
            have HY := Lib.hid hy
            clear hc1 hcd1 hy
            by_cases hyz : y = 0
            · subst hyz
              go_wp2
              go_roundw
              case rel => exact ⟨trivial, i + 1, by omega, by omega, by go_num, fun j h1 h2 => by
                rcases Nat.lt_or_ge j i with h | h
                · exact HZ.out j h1 h
                · obtain rfl : j = i := by omega
                  rw [HC1.out]; exact UInt8.toNat_inj.1 HY.out.symm⟩
              case measure => simp [intOf]; omega
            · have d1 : ((y : Int) == 0) = false := by simp; omega
              have HF := Lib.hid (isName_bad b k i hki (by rw [← HN.out]; exact hil) HA.out (fun h => HK.out (by rw [HN.out]; exact h)) (by rw [HC1.out]; intro h; rw [h] at HY; exact hyz HY.out))
              go_wp2
              go_ret2
              rw [HF.out.1, HF.out.2]
              exact ⟨rfl, rfl⟩
          · obtain rfl : i = n := by omega
            have HP := text_take HV.out k (by rw [← HN.out]; omega)
            have hcv := conv_text Tryd.underlying22 Tryd.underlying5 Tryd.underlying9 HP
            have qc : (k : Int) ≤ (cap : Int) := by have := text_cap HV.out; omega
            have HF := Lib.hid (isName_of b k (by rw [← HN.out]; exact hk) HA.out (fun h => HK.out (by rw [HN.out]; exact h)) (fun j h1 h2 => HZ.out j h1 (by rw [HN.out]; exact h2)))
            go_wp2
            go_ret2
            rw [HF.out.1, HF.out.2]
            exact ⟨rfl, rfl⟩
      · have d1 : ((x : Int) == 0) = false := by simp; omega
        go_wp2
        go_roundw
        case rel => exact ⟨trivial, k + 1, by omega, by go_num, fun j hj => by
          rcases Nat.lt_or_ge j k with h | h
          · exact HA.out j h
          · obtain rfl : j = k := by omega
            rw [HC.out]; intro h; rw [h] at HX; exact hz HX.out⟩
        case measure => simp [intOf]; omega
    · obtain rfl : k = n := by omega
      have HK := Lib.hid (show k < k → b.getD k 0 = 0 from fun h => absurd h (Nat.lt_irrefl k))
      go_wp2
      go_loopw [5] (fun c wl => wl = wr ∧ ∃ i : Nat, k ≤ i ∧ i ≤ k ∧ c = .int .i64 i ∧ ∀ j, k ≤ j → j < i → b.getD j 0 = 0) (fun c _ => k - (intOf c).toNat)
      case atStart => exact ⟨rfl, k, by omega, by omega, rfl, fun j h1 h2 => by omega⟩
      case round =>
        obtain ⟨rfl, i, hki, hi, rfl, hzz⟩ := hrel
        have HZ := Lib.hid hzz
        clear hzz
        by_cases hil : i < k
        · omega
        · obtain rfl : i = k := by omega
          have HP := text_take HV.out i (by rw [← HN.out]; omega)
          have hcv := conv_text Tryd.underlying22 Tryd.underlying5 Tryd.underlying9 HP
          have qc : (i : Int) ≤ (cap : Int) := by have := text_cap HV.out; omega
          have HF := Lib.hid (isName_of b i (by rw [← HN.out]; omega) HA.out (fun h => HK.out (by have := HN.out; omega)) (fun j h1 h2 => HZ.out j h1 (by rw [HN.out]; exact h2)))
          go_wp2
          go_ret2
          rw [HF.out.1, HF.out.2]
          exact ⟨rfl, rfl⟩
end Go.Proofs.YtbjekhhefepnlaaDoor
