/-
Texts that all claims of this seat share, part 2: Hist, EvSlices, Deeds, DotFace, Law09Orders, Ref10More, Ref10With, Ref10Leq, EvLaws, HistMem.
-/
import Derived.Deep.Slices
import Derived.Deep.QuietTactic
import Derived.BigQuiet
import Derived.Laws.AppendOwn
import Derived.Laws.OwnMore
import Derived.Great.Walk
import Derived.Test.YthkojphgjlojgaaDoorPk1
namespace Go.Proofs.YthkojphgjlojgaaDoor
open Go.RowKit
/-- What somebody does. -/
structure DeedT where
  who : Nat
  other : Nat
  path : Nat
  learns : Bool
  gone : Bool
  size : Nat
structure Hist where
  know : Nat → List D2
  out : List Ev
def pathsH : List (List UInt8) := [[97], [97, 47, 98], [99], [100]]
def sizeF (n : Nat) : Nat → BitVec 32 := fun i => if i = 0 then BitVec.ofNat 32 n else 0#32
def evH (h : Hist) (d : DeedT) : Ev :=
  ⟨(d.who % 3 : Nat), getV (h.know (d.who % 3)) (d.who % 3 : Nat) + 1, h.know (d.who % 3), if d.gone then 2 else 1, pathsH.getD (d.path % 4) [], if d.gone then zeroF else sizeF d.size, if d.gone then 0 else (d.size : Int)⟩
def putK (k : Nat → List D2) (w : Nat) (l : List D2) : Nat → List D2 := fun i => if i = w then l else k i
def stepH (h : Hist) (d : DeedT) : Hist :=
  if d.learns then ⟨putK h.know (d.who % 3) (joinV (h.know (d.who % 3)) (h.know (d.other % 3))), h.out⟩
  else ⟨putK h.know (d.who % 3) (withV (h.know (d.who % 3)) (evH h d).r (evH h d).q), h.out ++ [evH h d]⟩
def hist0 : Hist := ⟨fun _ => [], []⟩
def histN (l : List DeedT) : Hist := (l.take 40).foldl stepH hist0
theorem getV_nat (l : List D2) {a : Nat} (h : a < 32) : getV l (a : Int) = allV l a := by
  unfold getV; rw [if_neg (by omega)]; rfl
structure InvH (h : Hist) (n : Nat) : Prop where
  vec : ∀ i, i < 3 → mayV (h.know i) = true
  top : ∀ i j, i < 3 → j < 3 → allV (h.know i) j ≤ allV (h.know j) j
  cnt : ∀ i, i < 3 → allV (h.know i) i ≤ n
  evs : ∀ e ∈ h.out, mayE e = true ∧ (∀ i, u32 (e.sum i) < 256) ∧ ∃ a : Nat, a < 3 ∧ e.r = (a : Int) ∧ 1 ≤ e.q ∧ e.q ≤ allV (h.know a) a ∧ allV e.deps a = e.q - 1 ∧ ∀ j, j < 3 → allV e.deps j ≤ allV (h.know j) j
  clos : ∀ i a : Nat, i < 3 → a < 3 → ∀ e ∈ h.out, e.r = (a : Int) → e.q ≤ allV (h.know i) a → leqV e.deps (h.know i) = true
  trans : ∀ e ∈ h.out, ∀ f ∈ h.out, ∀ a : Nat, a < 3 → f.r = (a : Int) → f.q ≤ allV e.deps a → leqV f.deps e.deps = true
  rise : h.out.Pairwise fun e f => e.r = f.r → e.q < f.q
theorem inv0 : InvH hist0 0 where
  vec := fun _ _ => mayV_nil
  top := fun _ _ _ _ => by simp [hist0]
  cnt := fun _ _ => by simp [hist0, allV_nil]
  evs := fun e he => by simp [hist0] at he
  clos := fun _ _ _ _ e he => by simp [hist0] at he
  trans := fun e he => by simp [hist0] at he
  rise := List.Pairwise.nil
theorem sizeF_lt {n : Nat} (hn : n < 256) (i : Nat) : u32 (sizeF n i) < 256 := by
  unfold sizeF; split
  · unfold u32; rw [BitVec.toNat_ofNat]; omega
  · decide
theorem path_own {k : Nat} (hk : k < 4) : ownP (pathsH.getD k []) = true := by
  match k, hk with
  | 0, _ => decide +kernel
  | 1, _ => decide +kernel
  | 2, _ => decide +kernel
  | 3, _ => decide +kernel
theorem leq_refl (a : List D2) : leqV a a = true := (leqV_iff a a).2 fun _ _ => Int.le_refl _
theorem inv_learn {h : Hist} {n : Nat} (H : InvH h n) {w o : Nat} (hw : w < 3) (ho : o < 3) : InvH ⟨putK h.know w (joinV (h.know w) (h.know o)), h.out⟩ (n + 1) := by
  have hd : ∀ i j, i < 3 → j < 32 → allV (putK h.know w (joinV (h.know w) (h.know o)) i) j = if i = w then max (allV (h.know w) j) (allV (h.know o) j) else allV (h.know i) j := fun i j hi hj => by
    unfold putK; split
    · rw [all_join _ _ hj]
    · rfl
  have hdi : ∀ j, j < 3 → allV (putK h.know w (joinV (h.know w) (h.know o)) j) j = allV (h.know j) j := fun j hj => by
    rw [hd j j hj (by omega)]
    split
    · rename_i e; subst e
      have := H.top o j ho hj; omega
    · rfl
  refine ⟨fun i hi => ?_, fun i j hi hj => ?_, fun i hi => ?_, fun e he => ?_, fun i a hi ha e he hr hq => ?_, H.trans, H.rise⟩
  · show mayV (putK h.know w _ i) = true
    unfold putK; split
    · exact mayV_join _ _
    · exact H.vec i hi
  · show allV (putK h.know w _ i) j ≤ allV (putK h.know w _ j) j
    rw [hdi j hj, hd i j hi (by omega)]
    have h1 := H.top w j hw hj
    have h2 := H.top o j ho hj
    have h3 := H.top i j hi hj
    split <;> omega
  · show allV (putK h.know w _ i) i ≤ ((n + 1 : Nat) : Int)
    rw [hdi i hi]; have := H.cnt i hi; omega
  · obtain ⟨h1, h2, a, h3, h4, h5, h6, h7, h8⟩ := H.evs e he
    refine ⟨h1, h2, a, h3, h4, h5, ?_, h7, fun j hj => ?_⟩
    · show e.q ≤ allV (putK h.know w _ a) a
      rw [hdi a h3]; exact h6
    · show allV e.deps j ≤ allV (putK h.know w _ j) j
      rw [hdi j hj]; exact h8 j hj
  · have hq' : e.q ≤ allV (putK h.know w (joinV (h.know w) (h.know o)) i) a := hq
    show leqV e.deps (putK h.know w _ i) = true
    rw [hd i a hi (by omega)] at hq'
    unfold putK
    by_cases hiw : i = w
    · rw [if_pos hiw] at hq' ⊢
      rcases Int.le_total (allV (h.know w) a) (allV (h.know o) a) with hc | hc
      · exact leq_trans (H.clos o a ho ha e he hr (by omega)) (leq_join _ _).2
      · exact leq_trans (H.clos w a hw ha e he hr (by omega)) (leq_join _ _).1
    · rw [if_neg hiw] at hq' ⊢
      exact H.clos i a hi ha e he hr hq'
theorem inv_event {h : Hist} {n : Nat} (H : InvH h n) (hn : n < 1000) {w : Nat} (hw : w < 3) (e : Ev) (er : e.r = (w : Int)) (eq : e.q = allV (h.know w) w + 1) (ed : e.deps = h.know w) (ep : ownP e.path = true) (eh : mayH e = true) (es : ∀ i, u32 (e.sum i) < 256) :
    InvH ⟨putK h.know w (withV (h.know w) e.r e.q), h.out ++ [e]⟩ (n + 1) := by
  have hc := H.cnt w hw
  have hp := (allV_bd (h.know w) w).1
  have hmd : mayD e.r e.q = true := by rw [er, eq]; unfold mayD; rw [decide_eq_true_eq]; omega
  have hd : ∀ i j, i < 3 → j < 32 → allV (putK h.know w (withV (h.know w) e.r e.q) i) j = if i = w then (if j = w then e.q else allV (h.know w) j) else allV (h.know i) j := fun i j hi hj => by
    unfold putK; split
    · rw [all_with _ _ _ hj, withN_max, hmd, er]
      by_cases hjw : j = w
      · subst hjw; rw [if_pos ⟨rfl, rfl⟩, if_pos rfl]; omega
      · rw [if_neg (by omega), if_neg hjw]
    · rfl
  have hle : ∀ i j, i < 3 → j < 32 → allV (h.know i) j ≤ allV (putK h.know w (withV (h.know w) e.r e.q) i) j := fun i j hi hj => by
    rw [hd i j hi hj]
    by_cases hiw : i = w
    · subst hiw; rw [if_pos rfl]; split
      · rename_i e'; subst e'; omega
      · omega
    · rw [if_neg hiw]; omega
  have hnew : mayE e = true := by
    simp only [mayE, knownE, Bool.and_eq_true, decide_eq_true_eq]
    refine ⟨hmd, ⟨by rw [ed]; exact H.vec w hw, ?_⟩, ep, eh⟩
    rw [ed, er, eq, getV_nat _ (by omega)]; omega
  have htop : ∀ i j, i < 3 → j < 3 → allV (putK h.know w (withV (h.know w) e.r e.q) i) j ≤ allV (putK h.know w (withV (h.know w) e.r e.q) j) j := fun i j hi hj => by
    have h3 := H.top i j hi hj
    have h4 := hle j j hj (by omega)
    rw [hd i j hi (by omega)]
    by_cases hiw : i = w
    · subst hiw; rw [if_pos rfl]; split
      · rename_i e'; subst e'; rw [hd j j hj (by omega), if_pos rfl, if_pos rfl]; omega
      · omega
    · rw [if_neg hiw]; omega
  have hclos : ∀ i a : Nat, i < 3 → a < 3 → ∀ f ∈ h.out ++ [e], f.r = (a : Int) → f.q ≤ allV (putK h.know w (withV (h.know w) e.r e.q) i) a → leqV f.deps (putK h.know w (withV (h.know w) e.r e.q) i) = true := fun i a hi ha f hf hr hq => by
    rcases List.mem_append.1 hf with hf | hf
    · obtain ⟨-, -, a', h3, h4, h5, h6, h7, h8⟩ := H.evs f hf
      obtain rfl : a' = a := by omega
      have hq' : f.q ≤ allV (h.know i) a' := by
        rw [hd i a' hi (by omega)] at hq
        by_cases hiw : i = w
        · subst hiw; rw [if_pos rfl] at hq
          by_cases hjw : a' = i
          · subst hjw; exact h6
          · rwa [if_neg hjw] at hq
        · rwa [if_neg hiw] at hq
      have hl := H.clos i a' hi ha f hf hr hq'
      rw [leqV_iff] at hl ⊢
      exact fun j hj => Int.le_trans (hl j hj) (hle i j hi hj)
    · obtain rfl : f = e := by simpa using hf
      obtain rfl : w = a := by omega
      rw [hd i w hi (by omega)] at hq
      by_cases hiw : i = w
      · subst hiw
        rw [leqV_iff, ed]
        exact fun j hj => hle i j hi hj
      · rw [if_neg hiw] at hq
        have := H.top i w hi hw; omega
  refine ⟨fun i hi => ?_, htop, fun i hi => ?_, fun f hf => ?_, hclos, fun f hf g hg a ha hr hq => ?_, ?_⟩
  · show mayV (putK h.know w _ i) = true
    unfold putK; split
    · exact mayV_with _ _ _
    · exact H.vec i hi
  · show allV (putK h.know w _ i) i ≤ ((n + 1 : Nat) : Int)
    have := H.cnt i hi
    rw [hd i i hi (by omega)]
    by_cases hiw : i = w
    · subst hiw; rw [if_pos rfl, if_pos rfl]; omega
    · rw [if_neg hiw]; omega
  · rcases List.mem_append.1 hf with hf | hf
    · obtain ⟨h1, h2, a, h3, h4, h5, h6, h7, h8⟩ := H.evs f hf
      refine ⟨h1, h2, a, h3, h4, h5, Int.le_trans h6 (hle a a h3 (by omega)), h7, fun j hj => Int.le_trans (h8 j hj) (hle j j hj (by omega))⟩
    · obtain rfl : f = e := by simpa using hf
      refine ⟨hnew, es, w, hw, er, by omega, ?_, by rw [ed]; omega, fun j hj => ?_⟩
      · show f.q ≤ allV (putK h.know w _ w) w
        rw [hd w w hw (by omega), if_pos rfl, if_pos rfl]; omega
      · show allV f.deps j ≤ allV (putK h.know w _ j) j
        rw [ed]
        exact Int.le_trans (H.top w j hw hj) (hle j j hj (by omega))
  · rcases List.mem_append.1 hf with hf1 | hf1
    · rcases List.mem_append.1 hg with hg1 | hg1
      · exact H.trans f hf1 g hg1 a ha hr hq
      · obtain ⟨-, -, -, -, -, -, -, -, h8⟩ := H.evs f hf1
        obtain rfl : g = e := by simpa using hg1
        obtain rfl : w = a := by omega
        have := h8 w hw; omega
    · obtain rfl : f = e := by simpa using hf1
      rcases List.mem_append.1 hg with hg1 | hg1
      · rw [ed] at hq ⊢
        exact H.clos w a hw ha g hg1 hr hq
      · obtain rfl : g = f := by simpa using hg1
        exact leq_refl _
  · show List.Pairwise _ (h.out ++ [e])
    rw [List.pairwise_append]
    refine ⟨H.rise, List.pairwise_singleton _ _, fun f hf g hg hrr => ?_⟩
    obtain rfl : g = e := by simpa using hg
    obtain ⟨-, -, a, h3, h4, h5, h6, h7, h8⟩ := H.evs f hf
    obtain rfl : a = w := by omega
    omega
theorem evH_may (h : Hist) (d : DeedT) (hs : d.size < 256) : mayH (evH h d) = true ∧ ∀ i, u32 ((evH h d).sum i) < 256 := by
  cases hg : d.gone with
  | true => exact ⟨by simp [mayH, evH, hg, sameRow_self], fun i => by simp only [evH, hg]; exact zeroF_byt i⟩
  | false => exact ⟨by simp [mayH, evH, hg]; omega, fun i => by simp only [evH, hg]; exact sizeF_lt hs i⟩
theorem inv_step {h : Hist} {n : Nat} (H : InvH h n) (hn : n < 1000) {d : DeedT} (hs : d.size < 256) : InvH (stepH h d) (n + 1) := by
  have hw : d.who % 3 < 3 := Nat.mod_lt _ (by decide)
  unfold stepH
  split
  · exact inv_learn H hw (Nat.mod_lt _ (by decide))
  · obtain ⟨h1, h2⟩ := evH_may h d hs
    exact inv_event H hn hw (evH h d) rfl (by show getV _ _ + 1 = _; rw [getV_nat _ (by omega)]) rfl (path_own (Nat.mod_lt _ (by decide))) h1 h2
theorem inv_fold : ∀ (l : List DeedT) (h : Hist) (n : Nat), InvH h n → n + l.length ≤ 1000 → (∀ d ∈ l, d.size < 256) → InvH (l.foldl stepH h) (n + l.length)
  | [], h, n, H, _, _ => H
  | d :: t, h, n, H, hn, hs => by
    rw [List.length_cons] at hn ⊢
    have := inv_fold t (stepH h d) (n + 1) (inv_step H (by omega) (hs d (by simp))) (by omega) (fun x hx => hs x (by simp [hx]))
    rw [show n + (t.length + 1) = n + 1 + t.length by omega]
    exact this
theorem inv_hist (l : List DeedT) (hs : ∀ d ∈ l, d.size < 256) : ∃ n, InvH (histN l) n := by
  have hl : (l.take 40).length ≤ 40 := by rw [List.length_take]; omega
  exact ⟨_, inv_fold (l.take 40) hist0 0 inv0 (by omega) (fun d hd => hs d (List.mem_of_mem_take hd))⟩
/-- What the statement asks of any two events of a history. -/
theorem hist_says {h : Hist} {n : Nat} (H : InvH h n) {i k : Nat} {e f : Ev} (he : h.out[i]? = some e) (hf : h.out[k]? = some f) :
    mayE e = true ∧ hasV e.deps e.r e.q = false ∧ (hasV e.deps f.r f.q = true → hasV f.deps e.r e.q = false ∧ leqV f.deps e.deps = true) ∧ (i ≠ k → ¬ (e.r = f.r ∧ e.q = f.q)) := by
  have hme : e ∈ h.out := List.mem_of_getElem? he
  have hmf : f ∈ h.out := List.mem_of_getElem? hf
  obtain ⟨e1, -, a, e3, e4, e5, e6, e7, e8⟩ := H.evs e hme
  obtain ⟨f1, -, b, f3, f4, f5, f6, f7, f8⟩ := H.evs f hmf
  have hself : hasV e.deps e.r e.q = false := by
    cases hc : hasV e.deps e.r e.q with
    | false => rfl
    | true =>
      obtain ⟨i', h1, h2, h3, h4⟩ := (hasV_eq _ _ _).1 hc
      obtain rfl : i' = a := by omega
      omega
  refine ⟨e1, hself, fun hk => ?_, fun hik => ?_⟩
  · obtain ⟨i', h1, h2, h3, h4⟩ := (hasV_eq _ _ _).1 hk
    obtain rfl : i' = b := by omega
    have hl := H.trans e hme f hmf i' f3 f4 h4
    refine ⟨?_, hl⟩
    cases hc : hasV f.deps e.r e.q with
    | false => rfl
    | true =>
      obtain ⟨j', g1, g2, g3, g4⟩ := (hasV_eq _ _ _).1 hc
      obtain rfl : j' = a := by omega
      have := (leqV_iff _ _).1 hl j' g1
      omega
  · rintro ⟨hr, hq⟩
    have hpw := List.pairwise_iff_getElem.1 H.rise
    obtain ⟨hi, hei⟩ := List.getElem?_eq_some_iff.1 he
    obtain ⟨hk, hek⟩ := List.getElem?_eq_some_iff.1 hf
    rcases Nat.lt_or_gt_of_ne hik with hlt | hgt
    · have := hpw i k hi hk hlt (by rw [hei, hek]; exact hr)
      rw [hei, hek] at this; omega
    · have := hpw k i hk hi hgt (by rw [hei, hek]; exact hr.symm)
      rw [hei, hek] at this; omega
end Go.Proofs.YthkojphgjlojgaaDoor
namespace Go.Proofs.YthkojphgjlojgaaDoor
open Go.RowKit
/-- Events as the cells of a slice; each with the slice of what was known. -/
def evsC : List (Ev × Value) → List Value
  | [] => []
  | x :: t => (evC x.1 x.2).toList ++ evsC t
theorem evC_len (e : Ev) (v : Value) : (evC e v).toList.length = 38 := by rw [Array.length_toList, evC_size]
theorem evsC_length (us : List (Ev × Value)) : (evsC us).length = us.length * 38 := by
  induction us with
  | nil => rfl
  | cons x t ih => rw [evsC, List.length_append, evC_len, ih, List.length_cons]; omega
theorem evsC_append (us vs : List (Ev × Value)) : evsC (us ++ vs) = evsC us ++ evsC vs := by
  induction us with
  | nil => rfl
  | cons x t ih => rw [List.cons_append, evsC, evsC, ih, List.append_assoc]
theorem evsC_one (us : List (Ev × Value)) (h : ∀ x ∈ us, x.2.oneCell' = true) : ∀ u ∈ evsC us, u.oneCell' = true := by
  induction us with
  | nil => intro u hu; cases hu
  | cons x t ih =>
    intro u hu
    rw [evsC] at hu
    rcases List.mem_append.1 hu with hu | hu
    · exact (Array.all_eq_true_iff_forall_mem.1 (evC_one x.1 x.2 (h x (by simp)))) u (by simpa using hu)
    · exact ih (fun y hy => h y (by simp [hy])) u hu
theorem evsC_at (us : List (Ev × Value)) : ∀ k x, us[k]? = some x → ∀ j u, (evC x.1 x.2)[j]? = some u → (evsC us)[k * 38 + j]? = some u := by
  induction us with
  | nil => intro k x h; simp at h
  | cons y t ih =>
    intro k x h j u hu
    rw [evsC]
    cases k with
    | zero =>
      simp at h; subst h
      have hj : j < 38 := by have := (Array.getElem?_eq_some_iff.1 hu).1; rwa [evC_size] at this
      rw [List.getElem?_append_left (by rw [evC_len]; omega), Array.getElem?_toList, show 0 * 38 + j = j by omega]; exact hu
    | succ k =>
      rw [List.getElem?_append_right (by rw [evC_len]; omega), evC_len, show (k + 1) * 38 + j - 38 = k * 38 + j by omega]
      exact ih k x (by simpa using h) j u hu
/-- A slice value whose elements are these events. -/
def HasEvs (w : World) (v : Value) (l : List Ev) : Prop :=
  ∃ us : List (Ev × Value), us.map (·.1) = l ∧ (∀ x ∈ us, HasDots w x.2 x.1.deps) ∧ ∃ ao cap, v = .slice ao us.length cap ∧ (ao = none → us = [] ∧ cap = 0) ∧ ∀ ad, ao = some ad → us.length ≤ cap ∧ ∀ j u, (evsC us)[j]? = some u → w.cell? (ad.add j) = some u
theorem evs_nil (w : World) : HasEvs w (.slice none 0 0) [] := ⟨[], rfl, (fun _ h => by cases h), none, 0, rfl, fun _ => ⟨rfl, rfl⟩, fun _ h => by cases h⟩
theorem evs_below {w w' : World} {v : Value} {l : List Ev} (h : HasEvs w v l) (hb : Below w.heap.size w w') : HasEvs w' v l := by
  obtain ⟨us, h1, h2, ao, cap, rfl, hnil, hc⟩ := h
  refine ⟨us, h1, fun x hx => dots_below (h2 x hx) hb, ao, cap, rfl, hnil, fun ad had => ⟨(hc ad had).1, fun j u hu => ?_⟩⟩
  have h1 := (hc ad had).2 j u hu
  exact (World.cell?_of_block (hb.block (ad.add j).block (World.block_lt_of_cell? w _ h1))).trans h1
theorem evs_shape {w : World} {v : Value} {l : List Ev} (h : HasEvs w v l) (n : Nat) (hn : n = l.length) : ∃ ao cap, v = .slice ao n cap := by
  obtain ⟨us, rfl, -, ao, cap, rfl, -⟩ := h
  exact ⟨ao, cap, by rw [hn, List.length_map]⟩
/-- An event of such a slice. -/
theorem evs_at {w : World} {v : Value} {l : List Ev} (h : HasEvs w v l) (n k : Nat) (hn : l.length = n) (e : Ev) (he : l[k]? = some e) : ∃ ad cap u, v = .slice (some ad) n cap ∧ HasDots w u e.deps ∧ ∀ j x, (evC e u)[j]? = some x → w.cell? (ad.add (k * 38 + j)) = some x := by
  obtain ⟨us, rfl, h2, ao, cap, rfl, hnil, hc⟩ := h
  rw [List.getElem?_map] at he
  cases hx : us[k]? with
  | none => rw [hx] at he; cases he
  | some x =>
    rw [hx] at he; cases he
    cases ao with
    | none => obtain ⟨rfl, _⟩ := hnil rfl; simp at hx
    | some ad => exact ⟨ad, cap, x.2, by rw [← hn, List.length_map], h2 x (List.mem_of_getElem? hx), fun j y hy => (hc ad rfl).2 _ _ (evsC_at us k x hx j y hy)⟩
theorem addr_add2 (ad : Addr) (k j : Nat) : (ad.add k).add j = ad.add (k + j) := Go.Deep.add_add ad k j
/-- An event loaded from wherever its cells lie. -/
theorem ev_run {P : Program} {o : Oper} {a : Act} {w : World} (ty : TypeId) (x : Operand) (ho : o.op = .load ty x) (A : Addr) (hx : a.eval x = .pointer (some A)) {e : Ev} {v : Value} {fs : Array Field} (hu : P.underlying ty = some (.struct fs))
    (hi : (P.info? ty).map (·.size) = some 38) (hc : ∀ j u, (evC e v)[j]? = some u → w.cell? (A.add j) = some u) : (execOp a.eval o).run P w = .ok (.value (.agg (evC e v))) w := by
  have hl : (loadCells A (evC e v).toList.length).run P w = .ok (evC e v).toList.toArray w := run_loadCells_list (P := P) w A _ (fun j u hj => hc j u (by rwa [Array.getElem?_toList] at hj))
  rw [evC_len, Array.toArray_toList] at hl
  cases hq : P.info? ty with
  | none => simp [hq] at hi
  | some i =>
    have hs : i.size = 38 := by simpa [hq] using hi
    unfold execOp
    simp [ho, hx, Instr.loadAt, Instr.sureAddr, loadVar, isAgg, run_underlying hu, sizeOf, typeInfo, hq, hs, hl]
theorem evA_yields {P : Program} {ops : Array Oper} {S : World → Prop} {o : Oper} {a : Act} (hw : Region.wanted o (yielded ops a.tmps) = true) (ty : TypeId) (x : Operand) (ho : o.op = .load ty x) (A : Addr) (hx : a.eval x = .pointer (some A)) {e : Ev} {v : Value} {fs : Array Field}
    (hu : P.underlying ty = some (.struct fs)) (hi : (P.info? ty).map (·.size) = some 38) (hS : ∀ w, S w → ∀ j u, (evC e v)[j]? = some u → w.cell? (A.add j) = some u) : YieldsIf P ops S o (.agg (evC e v)) a :=
  .inl ⟨hw, fun w h => ev_run ty x ho A hx hu hi (hS w h)⟩
/-- A slice of events of the call's own, whose vectors lie in blocks of dots. -/
def OwnEvs (B : Nat) (w : World) (v : Value) (us : List (Ev × Value)) : Prop := w.ownsRow B 36 38 v us.length (evsC us) ∧ ∀ x ∈ us, TypDots w x.2 x.1.deps
theorem ownEvs_nil (B : Nat) (w : World) : OwnEvs B w (.slice none 0 0) [] := ⟨World.ownsRow_nil _ _ _ _, fun _ h => by cases h⟩
theorem evs_of_own {B : Nat} {w : World} {v : Value} {us : List (Ev × Value)} (h : OwnEvs B w v us) : HasEvs w v (us.map (·.1)) := by
  obtain ⟨h, ht⟩ := h
  rcases h.2 with ⟨rfl, h0⟩ | ⟨g, cap, cur, rfl, rest⟩
  · obtain rfl : us = [] := List.eq_nil_of_length_eq_zero h0
    exact evs_nil w
  · exact ⟨us, rfl, fun x hx => (ht x hx).1, some ⟨g, 0, none⟩, cap, rfl, (fun h => by cases h), fun ad had => ⟨rest.2.2.1, fun j u hu => by
      cases had; exact h.cells rfl j u hu⟩⟩
/-- One event appended to a slice of events of the call's own. -/
theorem append_ev {P : Program} {w : World} {ops : Array Oper} {rest : List Oper} {o : Oper} {a : Act} {Q : Exit → Act → World → Prop} (hgd : o.guard = none) (s x : Operand) (t : TypeId)
    (ho : o.op = .call { callee := .builtin .append, args := #[s, x], argTypes := #[t, t] })
    (base : Nat) (e : TypeId) (i : TypeInfo) (ht : P.underlying t = some (.slice e)) (hi : P.info? e = some i) (hz : (i.zero.map (·.cells.size), i.size, i.bytes) = (some 38, 38, 104))
    (v : Value) (us : List (Ev × Value)) (y : Ev × Value) (hs : a.eval s = v) (hown : w.ownsRow base e 38 v us.length (evsC us)) (hone : y.2.oneCell' = true) (ad : Addr) (c : Nat) (hx : a.eval x = .slice (some ad) 1 c)
    (hc : ∀ j u, (evC y.1 y.2)[j]? = some u → w.cell? (ad.add j) = some u) (hlen : us.length + 1 ≤ 100000) (hbase : base ≤ w.heap.size)
    (h : ∀ v' w', w'.ownsRow base e 38 v' (us ++ [y]).length (evsC (us ++ [y])) → w.grownBy w' v.ownBlock → wpList P ops Q rest (a.put o.dst v') w') : wpList P ops Q (o :: rest) a w := by
  simp only [Prod.mk.injEq] at hz
  obtain ⟨hz1, hz2, hz3⟩ := hz
  cases hzz : i.zero with
  | none => rw [hzz] at hz1; cases hz1
  | some z =>
    rw [hzz] at hz1
    simp only [Option.map_some, Option.some.injEq] at hz1
    have e1 : evsC [y] = (evC y.1 y.2).toList := by rw [evsC, evsC, List.append_nil]
    refine wpList_append_own w hgd s x t ho base e i z 38 104 ht hi hzz hz2 hz3 hz1 (by decide) v us.length (evsC us) hs hown ad 1 c (evsC [y]) hx (by rw [evsC_length]; rfl) (fun j u hj => ?_) (evsC_one [y] (fun q hq => by
      simp only [List.mem_singleton] at hq; rw [hq]; exact hone))
      (by unfold maxLen; omega) (by omega) hbase fun v' w' h1 h2 _ => h v' w' (by rw [evsC_append, List.length_append]; exact h1) h2
    rw [e1, Array.getElem?_toList] at hj
    exact hc j u hj
theorem infoEv : ∃ i, Tryd.prog.info? 36 = some i ∧ (i.zero.map (·.cells.size), i.size, i.bytes) = (some 38, 38, 104) := by
  have h : (Tryd.prog.info? 36).map (fun i => (i.zero.map (·.cells.size), i.size, i.bytes)) = some (some 38, 38, 104) := by kernel_rfl
  cases hi : Tryd.prog.info? 36 with
  | none => rw [hi] at h; cases h
  | some i => rw [hi] at h; exact ⟨i, rfl, Option.some.inj h⟩
end Go.Proofs.YthkojphgjlojgaaDoor
namespace Go.Proofs.YthkojphgjlojgaaDoor
open Go.RowKit
/-- A deed's cells. -/
def deedC (d : DeedT) : List Value := [.int .u8 (d.who : Int), .int .u8 (d.other : Int), .int .u8 (d.path : Int), .bool d.learns, .bool d.gone, .int .u8 (d.size : Int)]
/-- A slice value whose elements are these deeds. -/
def HasDeeds (w : World) (v : Value) (l : List DeedT) : Prop :=
  ∃ ao cap, v = .slice ao l.length cap ∧ (ao = none → l = [] ∧ cap = 0) ∧ ∀ ad, ao = some ad → l.length ≤ cap ∧ ∀ i d, l[i]? = some d → ∀ j u, (deedC d)[j]? = some u → w.cell? (ad.add (i * 6 + j)) = some u
theorem deeds_nil (w : World) : HasDeeds w (.slice none 0 0) [] := ⟨none, 0, rfl, fun _ => ⟨rfl, rfl⟩, fun _ h => by cases h⟩
theorem deeds_below {w w' : World} {v : Value} {l : List DeedT} (h : HasDeeds w v l) (hb : Below w.heap.size w w') : HasDeeds w' v l := by
  obtain ⟨ao, cap, rfl, hnil, hc⟩ := h
  refine ⟨ao, cap, rfl, hnil, fun ad had => ⟨(hc ad had).1, fun i d hi j u hu => ?_⟩⟩
  have h1 := (hc ad had).2 i d hi j u hu
  exact (World.cell?_of_block (hb.block (ad.add (i * 6 + j)).block (World.block_lt_of_cell? w _ h1))).trans h1
theorem deeds_shape {w : World} {v : Value} {l : List DeedT} (h : HasDeeds w v l) (n : Nat) (hn : n = l.length) : ∃ ao cap, v = .slice ao n cap := by
  obtain ⟨ao, cap, rfl, -⟩ := h
  exact ⟨ao, cap, by rw [hn]⟩
end Go.Proofs.YthkojphgjlojgaaDoor
namespace Go.Proofs.YthkojphgjlojgaaDoor
open Go.RowKit
/-- A number of 64 bits. -/
def I64 (a : Int) : Prop := -9223372036854775808 ≤ a ∧ a < 9223372036854775808
end Go.Proofs.YthkojphgjlojgaaDoor
namespace Go.Proofs.YthkojphgjlojgaaDoor
open Go.RowKit
theorem row_yields {P : Program} {ops : Array Oper} {S : World → Prop} {o : Oper} {a : Act} (hw : Region.wanted o (yielded ops a.tmps) = true) (ty : TypeId) (x : Operand) (ho : o.op = .load ty x) (g : Nat) (hx : a.eval x = .pointer (some ⟨g, 0, none⟩)) (t : TypeId) (cs : Array Value) (fr : Nat × Nat) (d : TypeDesc)
    (hu : P.underlying ty = some d) (hd : (match d with | .struct _ | .array _ _ => true | _ => false) = true) (hi : (P.info? ty).map (·.size) = some cs.size) (hS : ∀ w, S w → w.heap[g]? = some (.cells cs t fr)) : YieldsIf P ops S o (.agg cs) a :=
  .inl ⟨hw, fun w h => by
    unfold execOp
    simp [ho, hx, Instr.loadAt, Instr.sureAddr, run_loadVar_row w g t ty cs fr d (hS w h) hu hd hi]⟩
end Go.Proofs.YthkojphgjlojgaaDoor
namespace Go.Proofs.YthkojphgjlojgaaDoor
open Go.RowKit
theorem refAll_V (l : List D2) (hl : l.length < 2000000) (v : Value) (w : World) (hv : HasDots w v l) : Calls Tryd.prog 49 #[v] w fun e w' => e = .returned (numsV 32 (allV l)) ∧ Below w.heap.size w w' := refAll_any l hl v w hv
set_option maxRecDepth 100000 in
set_option maxHeartbeats 4000000 in
theorem refGet_any10 (l : List D2) (hl : l.length < 2000000) (r : Int) (v : Value) (w : World) (hv : HasDots w v l) : Calls Tryd.prog 25 #[v, .int .i64 r] w fun e w' => e = .returned (.int .i64 (getV l r)) ∧ Below w.heap.size w w' := by
  have HV := Lib.hid hv
  have A1 := Lib.hid (fun w v hv => refAll_V l hl v w hv)
  obtain ⟨ao, cap, rfl⟩ := dots_shape hv l.length rfl
  obtain ⟨n, hn⟩ : ∃ n, n = l.length := ⟨_, rfl⟩
  rw [← hn] at HV ⊢
  clear hv hl hn
  by_cases h0 : r < 0
  · have d1 : decide (r < 0) = true := decide_eq_true h0
    have HR := Lib.hid (show getV l r = 0 by rw [getV, if_pos (.inl h0)])
    clear h0
    go_enter Tryd.func25, Tryd.ntmps25
    go_wp2
    go_ret
    exact ⟨by rw [HR.out]; rfl, Below.refl _ _⟩
  · have d1 : decide (r < 0) = false := decide_eq_false h0
    by_cases h1 : 31 < r
    · have d2 : decide (r > 31) = true := decide_eq_true h1
      have HR := Lib.hid (show getV l r = 0 by rw [getV, if_pos (.inr h1)])
      clear h0 h1
      go_enter Tryd.func25, Tryd.ntmps25
      go_wp2
      go_ret
      exact ⟨by rw [HR.out]; rfl, Below.refl _ _⟩
    · have d2 : decide (r > 31) = false := decide_eq_false h1
      obtain ⟨i, hi⟩ : ∃ i : Nat, r = (i : Int) := ⟨r.toNat, by omega⟩
      subst hi
      have ix := fun w => index_nums (P := Tryd.prog) w (t := 74) (n := 32) (allV l) i (by omega) Tryd.underlying74 Tryd.underlying2 (by kernel_rfl)
      replace ix : ∀ w, (Instr.index 74 (numsV 32 (allV l)) (.int .i64 (i : Int))).run Tryd.prog w = .ok (.int .i64 (allV l i)) w := ix
      have HR := Lib.hid (show getV l (i : Int) = allV l i by rw [getV, if_neg (by omega), Int.toNat_natCast])
      clear h0 h1
      go_enter Tryd.func25, Tryd.ntmps25
      go_wp2_with (first
        | (go_at_call 49; refine (A1.out w _ HV.out).mono ?_; rintro e w1 ⟨rfl, hb⟩; have B1 := Lib.hid hb; clear hb))
      go_ret
      exact ⟨by rw [HR.out]; rfl, B1.out⟩
end Go.Proofs.YthkojphgjlojgaaDoor
namespace Go.Proofs.YthkojphgjlojgaaDoor
open Go.RowKit
theorem refOf_VT (f : Nat → Int) (w : World) : Calls Tryd.prog 50 #[numsV 32 f] w fun e w' => ∃ v, e = .returned v ∧ TypDots w' v (ofV f) ∧ Below w.heap.size w w' := refOf_typ f w
set_option maxRecDepth 100000 in
set_option maxHeartbeats 16000000 in
theorem refWith_typ10 (l : List D2) (hl : l.length < 2000000) (r q : Int) (v : Value) (w : World) (hv : HasDots w v l) : Calls Tryd.prog 26 #[v, .agg #[.int .i64 r, .int .i64 q]] w fun e w' => ∃ u, e = .returned u ∧ TypDots w' u (withV l r q) ∧ Below w.heap.size w w' := by
  have HV := Lib.hid hv
  have MY := Lib.hid (fun w => refMay_any9 r q w)
  have A1 := Lib.hid (fun w v hv => refAll_V l hl v w hv)
  have O1 := Lib.hid (fun w => refOf_VT (withN l r q) w)
  have E0 := Lib.hid (show (w.alloc (.cells #[.int .i64 r, .int .i64 q] 32 (0, 0))).heap[w.heap.size]? = some (.cells #[.int .i64 r, .int .i64 q] 32 (0, 0)) from one_box w r q)
  have B0 := Lib.hid ((Below.refl w.heap.size w).alloc (Nat.le_refl _) (.cells #[.int .i64 r, .int .i64 q] 32 (0, 0)))
  have L0 := Lib.hid (show w.heap.size < (w.alloc (.cells #[.int .i64 r, .int .i64 q] 32 (0, 0))).heap.size by simp)
  obtain ⟨ao, cap, rfl⟩ := dots_shape hv l.length rfl
  obtain ⟨n, hn⟩ : ∃ n, n = l.length := ⟨_, rfl⟩
  rw [← hn] at HV ⊢
  clear hv hl hn
  go_enter Tryd.func26, Tryd.ntmps26
  go_upto_region 1 with fail
  generalize w.alloc (.cells #[.int .i64 r, .int .i64 q] 32 (0, 0)) = W0 at *
  go_upto_region 2 with (first
    | (go_at_call 49; refine (A1.out W0 _ (dots_below HV.out B0.out)).mono ?_; rintro e w1 ⟨rfl, hb⟩; have E1 := Lib.hid (row_kept E0.out hb); have B1 := Lib.hid (below_next B0.out hb); have L1 := Lib.hid (show w.heap.size < w1.heap.size from Nat.lt_of_lt_of_le L0.out hb.size); clear hb)
    | (refine alloc_as rfl 74 rfl _ zero32 ?_)
    | (refine store_new rfl 74 (.tmp 5) (.tmp 7) rfl rfl w1 _ (nums 32 (allV l)) 74 rfl rfl rfl (by rw [nums_size]; kernel_rfl) (by rw [nums_size, nums_size]) (nums_one _ _) ?_; intro w2 hg2 hb2 hs2; have HG := Lib.hid hg2; have E2 := Lib.hid (row_kept E1.out hb2); have B2 := Lib.hid (below_next B1.out hb2); have LG := Lib.hid (And.intro L1.out hs2); clear hg2 hb2 hs2))
  obtain ⟨c0, c1⟩ := dot_cells (show _ = some (dotO r q) from E2.out)
  have C0 := Lib.hid c0
  have C1 := Lib.hid c1
  clear c0 c1 E0 E1 B0 B1 L0 L1
  generalize w1.heap.size = G at *
  cases hm : mayD r q with
  | false =>
    rw [hm] at MY
    have HS := Lib.hid (show nums 32 (allV l) = nums 32 (withN l r q) from nums_congr _ _ _ fun i _ => by
      rw [withN, if_neg (fun h => by rw [hm] at h; exact absurd h.1 (by decide))])
    rw [HS.out] at HG
    clear hm HS
    refine wp_region_held_drew (S := fun w' => Below w2.heap.size w2 w') (by kernel_rfl) (drawS (Below.refl _ _)) (fun hHeld => ?_)
    generalize w2.drew = wd at hHeld ⊢
    refine take_at (i := 0) 8 rfl rfl (by kernel_rfl) (by kernel_rfl) (by kernel_rfl) (fun _ _ _ h => h) (row_yields (by rfl) 32 (.tmp 3) rfl w.heap.size rfl 32 _ (0, 0) _ Tryd.underlying32 rfl (by kernel_rfl) (fun _ h => row_kept E2.out h)) hHeld ?_
    simp only [List.setIfInBounds_toArray, List.set_cons_zero, List.set_cons_succ]
    refine wpAnyH_ready (rs := [1]) (by kernel_rfl) (by simp) ?_
    refine AllReadyH.cons rfl (fun K hK => ?_) AllReadyH.nil
    go_simp
    go_at_call 51
    refine (MY.out _).mono ?_
    rintro e w6 ⟨rfl, hb⟩
    dsimp only
    refine hK.out _ _ (below_next hHeld hb) (fun hHeld => ?_)
    clear hK K hb
    refine take_at (i := 2) 10 rfl rfl (by kernel_rfl) (by kernel_rfl) (by kernel_rfl) (fun _ _ _ h => h) (sure_yes (by rfl) (fun w => by go_simp; try with_reducible rfl)) hHeld ?_
    simp only [List.setIfInBounds_toArray, List.set_cons_zero, List.set_cons_succ]
    refine take_at (i := 3) 11 rfl rfl (by kernel_rfl) (by kernel_rfl) (by kernel_rfl) (fun _ _ _ h => h) (.inr ⟨by rfl, rfl⟩) hHeld ?_
    simp only [List.setIfInBounds_toArray, List.set_cons_zero, List.set_cons_succ]
    refine take_at (i := 4) 12 rfl rfl (by kernel_rfl) (by kernel_rfl) (by kernel_rfl) (fun _ _ _ h => h) (.inr ⟨by rfl, rfl⟩) hHeld ?_
    simp only [List.setIfInBounds_toArray, List.set_cons_zero, List.set_cons_succ]
    refine take_at (i := 5) 13 rfl rfl (by kernel_rfl) (by kernel_rfl) (by kernel_rfl) (fun _ _ _ h => h) (.inr ⟨by rfl, rfl⟩) hHeld ?_
    simp only [List.setIfInBounds_toArray, List.set_cons_zero, List.set_cons_succ]
    refine take_at (i := 6) 14 rfl rfl (by kernel_rfl) (by kernel_rfl) (by kernel_rfl) (fun _ _ _ h => h) (.inr ⟨by rfl, rfl⟩) hHeld ?_
    simp only [List.setIfInBounds_toArray, List.set_cons_zero, List.set_cons_succ]
    refine take_at (i := 7) 15 rfl rfl (by kernel_rfl) (by kernel_rfl) (by kernel_rfl) (fun _ _ _ h => h) (.inr ⟨by rfl, rfl⟩) hHeld ?_
    simp only [List.setIfInBounds_toArray, List.set_cons_zero, List.set_cons_succ]
    refine take_at (i := 8) 16 rfl rfl (by kernel_rfl) (by kernel_rfl) (by kernel_rfl) (fun _ _ _ h => h) (.inr ⟨by rfl, rfl⟩) hHeld ?_
    simp only [List.setIfInBounds_toArray, List.set_cons_zero, List.set_cons_succ]
    refine take_at (i := 9) 17 rfl rfl (by kernel_rfl) (by kernel_rfl) (by kernel_rfl) (fun _ _ _ h => h) (.inr ⟨by rfl, rfl⟩) hHeld ?_
    simp only [List.setIfInBounds_toArray, List.set_cons_zero, List.set_cons_succ]
    refine take_at (i := 10) 18 rfl rfl (by kernel_rfl) (by kernel_rfl) (by kernel_rfl) (fun _ _ _ h => h) (sure_yes (by rfl) (fun w => by go_simp; try with_reducible rfl)) hHeld ?_
    simp only [List.setIfInBounds_toArray, List.set_cons_zero, List.set_cons_succ]
    refine wpAnyH_done (by kernel_rfl) ?_ _
    have HG6 := Lib.hid (row_kept HG.out hHeld)
    have B6 := Lib.hid (below_next B2.out hHeld)
    go_wp2_with (first
      | (refine wpList_load_row rfl 74 (.tmp 5) rfl G rfl 74 _ (0, 0) _ HG6.out Tryd.underlying74 rfl (by rw [nums_size]; kernel_rfl) ?_)
      | (go_at_call 50; refine (O1.out _).mono ?_; rintro e w8 ⟨u, rfl, hu, hb⟩; have HU := Lib.hid hu; have B8 := Lib.hid (below_next B6.out hb); clear hu hb))
    go_ret
    exact ⟨_, rfl, HU.out, B8.out⟩
  | true =>
    rw [hm] at MY
    have hb := mayT_bd (d := (r, q)) hm
    simp only at hb
    obtain ⟨i, hi⟩ : ∃ i : Nat, r = (i : Int) := ⟨r.toNat, by omega⟩
    subst hi
    have hi32 : i < 32 := by omega
    have qi : (i : Int) < 32 := by omega
    obtain ⟨m, hme⟩ : ∃ m, m = allV l i := ⟨_, rfl⟩
    have CM := Lib.hid (show w2.cell? ⟨G, i, none⟩ = some (.int .i64 m) by rw [hme]; exact nums_cell HG.out i hi32)
    by_cases hgt : m < q
    · have d1 : decide (q > m) = true := decide_eq_true hgt
      have HS := Lib.hid (show (nums 32 (allV l)).setIfInBounds i (.int .i64 q) = nums 32 (withN l (i : Int) q) from nums_set _ _ _ _ _ fun j _ => by
        rw [withN]
        by_cases hj : j = i
        · subst hj; rw [if_pos rfl, if_pos ⟨hm, rfl, by rw [← hme]; exact hgt⟩]
        · rw [if_neg hj, if_neg (fun h => hj (by have := h.2.1; omega))])
      have HI := Lib.hid hi32
      clear hm hb hgt hme hi32
      refine wp_region_held_drew (S := fun w' => Below w2.heap.size w2 w') (by kernel_rfl) (drawS (Below.refl _ _)) (fun hHeld => ?_)
      generalize w2.drew = wd at hHeld ⊢
      refine take_at (i := 0) 8 rfl rfl (by kernel_rfl) (by kernel_rfl) (by kernel_rfl) (fun _ _ _ h => h) (row_yields (by rfl) 32 (.tmp 3) rfl w.heap.size rfl 32 _ (0, 0) _ Tryd.underlying32 rfl (by kernel_rfl) (fun _ h => row_kept E2.out h)) hHeld ?_
      simp only [List.setIfInBounds_toArray, List.set_cons_zero, List.set_cons_succ]
      refine wpAnyH_ready (rs := [1]) (by kernel_rfl) (by simp) ?_
      refine AllReadyH.cons rfl (fun K hK => ?_) AllReadyH.nil
      go_simp
      go_at_call 51
      refine (MY.out _).mono ?_
      rintro e w6 ⟨rfl, hb⟩
      dsimp only
      refine hK.out _ _ (below_next hHeld hb) (fun hHeld => ?_)
      clear hK K hb
      refine take_at (i := 2) 10 rfl rfl (by kernel_rfl) (by kernel_rfl) (by kernel_rfl) (fun _ _ _ h => h) (sure_yes (by rfl) (fun w => by go_simp; try with_reducible rfl)) hHeld ?_
      simp only [List.setIfInBounds_toArray, List.set_cons_zero, List.set_cons_succ]
      refine take_at (i := 3) 11 rfl rfl (by kernel_rfl) (by kernel_rfl) (by kernel_rfl) (fun _ _ _ h => h) (sure_yes (by rfl) (fun w => by go_simp; try with_reducible rfl)) hHeld ?_
      simp only [List.setIfInBounds_toArray, List.set_cons_zero, List.set_cons_succ]
      refine take_at (i := 5) 13 rfl rfl (by kernel_rfl) (by kernel_rfl) (by kernel_rfl) (fun _ _ _ h => h) (sure_yes (by rfl) (fun w => by go_simp; try with_reducible rfl)) hHeld ?_
      simp only [List.setIfInBounds_toArray, List.set_cons_zero, List.set_cons_succ]
      refine take_at (i := 4) 12 rfl rfl (by kernel_rfl) (by kernel_rfl) (by kernel_rfl) (fun _ _ _ h => h) (cell_yields (by rfl) 2 (.tmp 11) rfl w.heap.size 1 rfl .i64 q Tryd.underlying2 (fun w h => (World.cell?_of_block (h.block _ (World.block_lt_of_cell? _ _ C1.out))).trans C1.out)) hHeld ?_
      simp only [List.setIfInBounds_toArray, List.set_cons_zero, List.set_cons_succ]
      refine take_at (i := 6) 14 rfl rfl (by kernel_rfl) (by kernel_rfl) (by kernel_rfl) (fun _ _ _ h => h) (cell_yields (by rfl) 3 (.tmp 13) rfl w.heap.size 0 rfl .i64 (i : Int) Tryd.underlying3 (fun w h => (World.cell?_of_block (h.block _ (World.block_lt_of_cell? _ _ C0.out))).trans C0.out)) hHeld ?_
      simp only [List.setIfInBounds_toArray, List.set_cons_zero, List.set_cons_succ]
      refine take_at (i := 7) 15 rfl rfl (by kernel_rfl) (by kernel_rfl) (by kernel_rfl) (fun _ _ _ h => h) (sure_yes (by rfl) (fun w => by go_simp; try with_reducible rfl)) hHeld ?_
      simp only [List.setIfInBounds_toArray, List.set_cons_zero, List.set_cons_succ]
      refine take_at (i := 8) 16 rfl rfl (by kernel_rfl) (by kernel_rfl) (by kernel_rfl) (fun _ _ _ h => h) (cell_yields (by rfl) 2 (.tmp 15) rfl G i rfl .i64 m Tryd.underlying2 (fun w h => (World.cell?_of_block (h.block _ (World.block_lt_of_cell? _ _ CM.out))).trans CM.out)) hHeld ?_
      simp only [List.setIfInBounds_toArray, List.set_cons_zero, List.set_cons_succ]
      refine take_at (i := 9) 17 rfl rfl (by kernel_rfl) (by kernel_rfl) (by kernel_rfl) (fun _ _ _ h => h) (sure_yes (by rfl) (fun w => by go_simp; try with_reducible rfl)) hHeld ?_
      simp only [List.setIfInBounds_toArray, List.set_cons_zero, List.set_cons_succ]
      refine take_at (i := 10) 18 rfl rfl (by kernel_rfl) (by kernel_rfl) (by kernel_rfl) (fun _ _ _ h => h) (sure_yes (by rfl) (fun w => by go_simp; try with_reducible rfl)) hHeld ?_
      simp only [List.setIfInBounds_toArray, List.set_cons_zero, List.set_cons_succ]
      refine wpAnyH_done (by kernel_rfl) ?_ _
      have c0 := (World.cell?_of_block (hHeld.block _ (World.block_lt_of_cell? _ _ C0.out))).trans C0.out
      have c1 := (World.cell?_of_block (hHeld.block _ (World.block_lt_of_cell? _ _ C1.out))).trans C1.out
      have HG6 := Lib.hid (row_kept HG.out hHeld)
      have B6 := Lib.hid (below_next B2.out hHeld)
      clear hHeld C0 C1 CM HG
      go_wp2_with (first
        | (refine store_cell rfl 2 (.tmp 23) (.tmp 22) rfl rfl .i64 G i _ q 74 HG6.out rfl rfl (by rw [nums_size]; exact HI.out) (by kernel_rfl) ?_; intro w7 hg7 hs7; rw [HS.out] at hg7; have HG7 := Lib.hid hg7; have B7 := Lib.hid (solo_below B6.out hs7 (Nat.le_of_lt LG.out.1)); clear hg7 hs7)
        | (refine wpList_load_row rfl 74 (.tmp 5) rfl G rfl 74 _ (0, 0) _ HG7.out Tryd.underlying74 rfl (by rw [nums_size]; kernel_rfl) ?_)
        | (go_at_call 50; refine (O1.out _).mono ?_; rintro e w8 ⟨u, rfl, hu, hb⟩; have HU := Lib.hid hu; have B8 := Lib.hid (below_next B7.out hb); clear hu hb))
      go_ret
      exact ⟨_, rfl, HU.out, B8.out⟩
    · have d1 : decide (q > m) = false := decide_eq_false (by omega)
      have HS := Lib.hid (show nums 32 (allV l) = nums 32 (withN l (i : Int) q) from nums_congr _ _ _ fun j _ => by
        rw [withN, if_neg (fun h => by
          obtain rfl : j = i := by have := h.2.1; omega
          rw [← hme] at h; exact hgt h.2.2)])
      clear hm hb hgt hme hi32
      refine wp_region_held_drew (S := fun w' => Below w2.heap.size w2 w') (by kernel_rfl) (drawS (Below.refl _ _)) (fun hHeld => ?_)
      generalize w2.drew = wd at hHeld ⊢
      refine take_at (i := 0) 8 rfl rfl (by kernel_rfl) (by kernel_rfl) (by kernel_rfl) (fun _ _ _ h => h) (row_yields (by rfl) 32 (.tmp 3) rfl w.heap.size rfl 32 _ (0, 0) _ Tryd.underlying32 rfl (by kernel_rfl) (fun _ h => row_kept E2.out h)) hHeld ?_
      simp only [List.setIfInBounds_toArray, List.set_cons_zero, List.set_cons_succ]
      refine wpAnyH_ready (rs := [1]) (by kernel_rfl) (by simp) ?_
      refine AllReadyH.cons rfl (fun K hK => ?_) AllReadyH.nil
      go_simp
      go_at_call 51
      refine (MY.out _).mono ?_
      rintro e w6 ⟨rfl, hb⟩
      dsimp only
      refine hK.out _ _ (below_next hHeld hb) (fun hHeld => ?_)
      clear hK K hb
      refine take_at (i := 2) 10 rfl rfl (by kernel_rfl) (by kernel_rfl) (by kernel_rfl) (fun _ _ _ h => h) (sure_yes (by rfl) (fun w => by go_simp; try with_reducible rfl)) hHeld ?_
      simp only [List.setIfInBounds_toArray, List.set_cons_zero, List.set_cons_succ]
      refine take_at (i := 3) 11 rfl rfl (by kernel_rfl) (by kernel_rfl) (by kernel_rfl) (fun _ _ _ h => h) (sure_yes (by rfl) (fun w => by go_simp; try with_reducible rfl)) hHeld ?_
      simp only [List.setIfInBounds_toArray, List.set_cons_zero, List.set_cons_succ]
      refine take_at (i := 5) 13 rfl rfl (by kernel_rfl) (by kernel_rfl) (by kernel_rfl) (fun _ _ _ h => h) (sure_yes (by rfl) (fun w => by go_simp; try with_reducible rfl)) hHeld ?_
      simp only [List.setIfInBounds_toArray, List.set_cons_zero, List.set_cons_succ]
      refine take_at (i := 4) 12 rfl rfl (by kernel_rfl) (by kernel_rfl) (by kernel_rfl) (fun _ _ _ h => h) (cell_yields (by rfl) 2 (.tmp 11) rfl w.heap.size 1 rfl .i64 q Tryd.underlying2 (fun w h => (World.cell?_of_block (h.block _ (World.block_lt_of_cell? _ _ C1.out))).trans C1.out)) hHeld ?_
      simp only [List.setIfInBounds_toArray, List.set_cons_zero, List.set_cons_succ]
      refine take_at (i := 6) 14 rfl rfl (by kernel_rfl) (by kernel_rfl) (by kernel_rfl) (fun _ _ _ h => h) (cell_yields (by rfl) 3 (.tmp 13) rfl w.heap.size 0 rfl .i64 (i : Int) Tryd.underlying3 (fun w h => (World.cell?_of_block (h.block _ (World.block_lt_of_cell? _ _ C0.out))).trans C0.out)) hHeld ?_
      simp only [List.setIfInBounds_toArray, List.set_cons_zero, List.set_cons_succ]
      refine take_at (i := 7) 15 rfl rfl (by kernel_rfl) (by kernel_rfl) (by kernel_rfl) (fun _ _ _ h => h) (sure_yes (by rfl) (fun w => by go_simp; try with_reducible rfl)) hHeld ?_
      simp only [List.setIfInBounds_toArray, List.set_cons_zero, List.set_cons_succ]
      refine take_at (i := 8) 16 rfl rfl (by kernel_rfl) (by kernel_rfl) (by kernel_rfl) (fun _ _ _ h => h) (cell_yields (by rfl) 2 (.tmp 15) rfl G i rfl .i64 m Tryd.underlying2 (fun w h => (World.cell?_of_block (h.block _ (World.block_lt_of_cell? _ _ CM.out))).trans CM.out)) hHeld ?_
      simp only [List.setIfInBounds_toArray, List.set_cons_zero, List.set_cons_succ]
      refine take_at (i := 9) 17 rfl rfl (by kernel_rfl) (by kernel_rfl) (by kernel_rfl) (fun _ _ _ h => h) (sure_yes (by rfl) (fun w => by go_simp; try with_reducible rfl)) hHeld ?_
      simp only [List.setIfInBounds_toArray, List.set_cons_zero, List.set_cons_succ]
      refine take_at (i := 10) 18 rfl rfl (by kernel_rfl) (by kernel_rfl) (by kernel_rfl) (fun _ _ _ h => h) (sure_yes (by rfl) (fun w => by go_simp; try with_reducible rfl)) hHeld ?_
      simp only [List.setIfInBounds_toArray, List.set_cons_zero, List.set_cons_succ]
      refine wpAnyH_done (by kernel_rfl) ?_ _
      have HG6 := Lib.hid (show w6.heap[G]? = some (.cells (nums 32 (withN l (i : Int) q)) 74 (0, 0)) by rw [← HS.out]; exact row_kept HG.out hHeld)
      have B6 := Lib.hid (below_next B2.out hHeld)
      go_wp2_with (first
        | (refine wpList_load_row rfl 74 (.tmp 5) rfl G rfl 74 _ (0, 0) _ HG6.out Tryd.underlying74 rfl (by rw [nums_size]; kernel_rfl) ?_)
        | (go_at_call 50; refine (O1.out _).mono ?_; rintro e w8 ⟨u, rfl, hu, hb⟩; have HU := Lib.hid hu; have B8 := Lib.hid (below_next B6.out hb); clear hu hb))
      go_ret
      exact ⟨_, rfl, HU.out, B8.out⟩
end Go.Proofs.YthkojphgjlojgaaDoor
namespace Go.Proofs.YthkojphgjlojgaaDoor
open Go.RowKit
/-- The first k numbers are the new ones. -/
def mixN (f g : Nat → Int) (k i : Nat) : Int := if i < k then g i else f i
theorem mixN_zero (n : Nat) (f g : Nat → Int) : nums n (mixN f g 0) = nums n f := nums_congr _ _ _ fun _ _ => if_neg (by omega)
theorem mixN_full (n : Nat) (f g : Nat → Int) : nums n (mixN f g n) = nums n g := nums_congr _ _ _ fun _ hi => if_pos hi
theorem mixN_set (n : Nat) (f g : Nat → Int) (k : Nat) : (nums n (mixN f g k)).setIfInBounds k (.int .i64 (g k)) = nums n (mixN f g (k + 1)) := nums_set _ _ _ _ _ fun j _ => by
  unfold mixN
  by_cases h : j = k
  · subst h; rw [if_pos rfl, if_pos (by omega)]
  · rw [if_neg h]
    by_cases h2 : j < k
    · rw [if_pos h2, if_pos (by omega)]
    · rw [if_neg h2, if_neg (by omega)]
theorem mixN_at (f g : Nat → Int) (k : Nat) : mixN f g k k = f k := if_neg (Nat.lt_irrefl _)
theorem max_if (x y : Int) : (if x < y then y else x) = max x y := by split <;> omega
set_option maxRecDepth 100000 in
set_option maxHeartbeats 16000000 in
theorem refJoin_typ10 (a b : List D2) (ha : a.length < 2000000) (hb : b.length < 2000000) (v u : Value) (w : World) (hv : HasDots w v a) (hu : HasDots w u b) : Calls Tryd.prog 24 #[v, u] w fun e w' => ∃ x, e = .returned x ∧ TypDots w' x (joinV a b) ∧ Below w.heap.size w w' := by
  have HV := Lib.hid hv
  have HU := Lib.hid hu
  have A1 := Lib.hid (fun w v hv => refAll_V a ha v w hv)
  have A2 := Lib.hid (fun w v hv => refAll_V b hb v w hv)
  have O1 := Lib.hid (fun w => refOf_typ (joinN a b) w)
  obtain ⟨ao, cap, rfl⟩ := dots_shape hv a.length rfl
  obtain ⟨ao2, cap2, rfl⟩ := dots_shape hu b.length rfl
  obtain ⟨n, hn⟩ : ∃ n, n = a.length := ⟨_, rfl⟩
  obtain ⟨m, hm⟩ : ∃ m, m = b.length := ⟨_, rfl⟩
  rw [← hn] at HV ⊢
  rw [← hm] at HU ⊢
  clear hv hu ha hb hn hm
  go_enter Tryd.func24, Tryd.ntmps24
  go_upto_region 2 with (first
    | (go_at_call 49; refine (A1.out w _ HV.out).mono ?_; rintro e w1 ⟨rfl, hb⟩; have B1 := Lib.hid hb; clear hb)
    | (refine alloc_as rfl 74 rfl _ zero32 ?_)
    | (refine store_new rfl 74 (.tmp 5) (.tmp 9) rfl rfl w1 _ (nums 32 (allV a)) 74 rfl rfl rfl (by rw [nums_size]; kernel_rfl) (by rw [nums_size, nums_size]) (nums_one _ _) ?_; intro w2 hg2 hb2 hs2; have HG := Lib.hid hg2; have B2 := Lib.hid (below_next B1.out hb2); have LG := Lib.hid (And.intro B1.out.size hs2); clear hg2 hb2 hs2))
  generalize w1.heap.size = G at *
  go_upto_region 3 with (first
    | (go_at_call 49; refine (A2.out w2 _ (dots_below HU.out B2.out)).mono ?_; rintro e w3 ⟨rfl, hb⟩; have HG3 := Lib.hid (row_kept HG.out hb); have B3 := Lib.hid (below_next B2.out hb); have L3 := Lib.hid (show G < w3.heap.size from Nat.lt_of_lt_of_le LG.out.2 hb.size); clear hb)
    | (refine alloc_as rfl 74 rfl _ zero32 ?_)
    | (refine store_new rfl 74 (.tmp 6) (.tmp 11) rfl rfl w3 _ (nums 32 (allV b)) 74 rfl rfl rfl (by rw [nums_size]; kernel_rfl) (by rw [nums_size, nums_size]) (nums_one _ _) ?_; intro w4 hg4 hb4 hs4; have HH := Lib.hid hg4; have GG := Lib.hid (row_kept HG3.out hb4); have B4 := Lib.hid (below_next B3.out hb4); clear hg4 hb4 hs4))
  have HGH := Lib.hid (show G ≠ w3.heap.size ∧ w.heap.size ≤ G from ⟨Nat.ne_of_lt L3.out, LG.out.1⟩)
  generalize w3.heap.size = H at *
  go_wp2
  go_loopw [7] (fun c wr => ∃ k : Nat, k ≤ 32 ∧ c = .int .i64 (k : Int) ∧ wr.heap[G]? = some (.cells (nums 32 (mixN (allV a) (joinN a b) k)) 74 (0, 0)) ∧ wr.heap[H]? = some (.cells (nums 32 (allV b)) 74 (0, 0)) ∧ Below w.heap.size w wr) (fun c _ => 32 - (intOf c).toNat)
  case atStart => exact ⟨0, by omega, rfl, by rw [mixN_zero]; exact GG.out, HH.out, B4.out⟩
  case round =>
    clear GG HH B4
    obtain ⟨k, hk, rfl, hg, hh, hb⟩ := hrel
    by_cases hlt : k < 32
    · have q0 : (k : Int) < 32 := by omega
      have c0 := nums_cell hg k hlt
      have c1 := nums_cell hh k hlt
      rw [mixN_at] at c0
      have HG := Lib.hid hg
      have HH := Lib.hid hh
      have HB := Lib.hid hb
      have HK := Lib.hid hlt
      have KK := Lib.hid (show k + 1 ≤ 32 ∧ 32 - (k + 1) < 32 - k by omega)
      have HM := Lib.hid (mixN_set 32 (allV a) (joinN a b) k)
      obtain ⟨x, hx⟩ : ∃ x, x = allV a k := ⟨_, rfl⟩
      obtain ⟨y, hy⟩ : ∃ y, y = allV b k := ⟨_, rfl⟩
      have HXY := Lib.hid (show joinN a b k = max x y by rw [joinN, hx, hy])
      rw [← hx] at c0
      rw [← hy] at c1
      rw [HXY.out] at HM
      clear hg hh hb hlt hx hy
      go_wp2
      go_still_tail 9, (by kernel_rfl)
      try rw [max_if x y]
      change wpList _ _ _ _ _ wr.drew
      have hg : wr.drew.heap[G]? = _ := HG.out
      have hh : wr.drew.heap[H]? = _ := HH.out
      have hb := below_draws HB.out 1
      change Below _ _ wr.drew at hb
      clear HG HH HB c0 c1 HXY
      generalize wr.drew = w7 at *
      generalize max x y = z at *
      go_wp2_with (first
        | (refine store_cell rfl 2 (.tmp 24) (.tmp 23) rfl rfl .i64 G k _ z 74 hg rfl rfl (by rw [nums_size]; exact HK.out) (by kernel_rfl) ?_; intro w8 hg8 hs8; rw [HM.out] at hg8; have H8 := Lib.hid (And.intro hg8 (And.intro ((hs8.block H (Ne.symm HGH.out.1)).trans hh) (solo_below hb hs8 HGH.out.2))); clear hg8 hs8 hg hh hb))
      refine ⟨⟨k + 1, KK.out.1, by simp, H8.out.1, H8.out.2.1, H8.out.2.2⟩, ?_⟩
      have := KK.out.2; simp [intOf] <;> omega
    · have q0 : ¬ (k : Int) < 32 := by omega
      obtain rfl : k = 32 := by omega
      rw [mixN_full] at hg
      have HG := Lib.hid hg
      have HB := Lib.hid hb
      clear hg hh hb hlt
      go_wp2_with (first
        | (refine wpList_load_row rfl 74 (.tmp 5) rfl G rfl 74 _ (0, 0) _ HG.out Tryd.underlying74 rfl (by rw [nums_size]; kernel_rfl) ?_)
        | (go_at_call 50; refine (O1.out _).mono ?_; rintro e w8 ⟨x, rfl, hx, hb⟩; have HX := Lib.hid hx; have B8 := Lib.hid (below_next HB.out hb); clear hx hb))
      go_ret
      exact ⟨_, rfl, HX.out, B8.out⟩
set_option maxRecDepth 100000 in
set_option maxHeartbeats 16000000 in
theorem refLeq_any10 (a b : List D2) (ha : a.length < 2000000) (hb : b.length < 2000000) (v u : Value) (w : World) (hv : HasDots w v a) (hu : HasDots w u b) : Calls Tryd.prog 32 #[v, u] w fun e w' => e = .returned (.bool (leqV a b)) ∧ Below w.heap.size w w' := by
  have HV := Lib.hid hv
  have HU := Lib.hid hu
  have A1 := Lib.hid (fun w v hv => refAll_V a ha v w hv)
  have A2 := Lib.hid (fun w v hv => refAll_V b hb v w hv)
  obtain ⟨ao, cap, rfl⟩ := dots_shape hv a.length rfl
  obtain ⟨ao2, cap2, rfl⟩ := dots_shape hu b.length rfl
  obtain ⟨n, hn⟩ : ∃ n, n = a.length := ⟨_, rfl⟩
  obtain ⟨m, hm⟩ : ∃ m, m = b.length := ⟨_, rfl⟩
  rw [← hn] at HV ⊢
  rw [← hm] at HU ⊢
  clear hv hu ha hb hn hm
  go_enter Tryd.func32, Tryd.ntmps32
  go_upto_region 2 with (first
    | (go_at_call 49; refine (A1.out w _ HV.out).mono ?_; rintro e w1 ⟨rfl, hb⟩; have B1 := Lib.hid hb; clear hb)
    | (refine alloc_as rfl 74 rfl _ zero32 ?_)
    | (refine store_new rfl 74 (.tmp 5) (.tmp 9) rfl rfl w1 _ (nums 32 (allV a)) 74 rfl rfl rfl (by rw [nums_size]; kernel_rfl) (by rw [nums_size, nums_size]) (nums_one _ _) ?_; intro w2 hg2 hb2 hs2; have HG := Lib.hid hg2; have B2 := Lib.hid (below_next B1.out hb2); have LG := Lib.hid (And.intro B1.out.size hs2); clear hg2 hb2 hs2))
  generalize w1.heap.size = G at *
  go_upto_region 3 with (first
    | (go_at_call 49; refine (A2.out w2 _ (dots_below HU.out B2.out)).mono ?_; rintro e w3 ⟨rfl, hb⟩; have HG3 := Lib.hid (row_kept HG.out hb); have B3 := Lib.hid (below_next B2.out hb); have L3 := Lib.hid (show G < w3.heap.size from Nat.lt_of_lt_of_le LG.out.2 hb.size); clear hb)
    | (refine alloc_as rfl 74 rfl _ zero32 ?_)
    | (refine store_new rfl 74 (.tmp 6) (.tmp 11) rfl rfl w3 _ (nums 32 (allV b)) 74 rfl rfl rfl (by rw [nums_size]; kernel_rfl) (by rw [nums_size, nums_size]) (nums_one _ _) ?_; intro w4 hg4 hb4 hs4; have HH := Lib.hid hg4; have GG := Lib.hid (row_kept HG3.out hb4); have B4 := Lib.hid (below_next B3.out hb4); clear hg4 hb4 hs4))
  have HGH := Lib.hid (show G ≠ w3.heap.size ∧ w.heap.size ≤ G from ⟨Nat.ne_of_lt L3.out, LG.out.1⟩)
  generalize w3.heap.size = H at *
  go_wp2
  go_loopw [7] (fun c wr => ∃ k : Nat, k ≤ 32 ∧ c = .int .i64 (k : Int) ∧ (∀ i, i < k → allV a i ≤ allV b i) ∧ wr.heap[G]? = some (.cells (nums 32 (allV a)) 74 (0, 0)) ∧ wr.heap[H]? = some (.cells (nums 32 (allV b)) 74 (0, 0)) ∧ Below w.heap.size w wr) (fun c _ => 32 - (intOf c).toNat)
  case atStart => exact ⟨0, by omega, rfl, (fun i hi => absurd hi (by omega)), GG.out, HH.out, B4.out⟩
  case round =>
    clear GG HH B4
    obtain ⟨k, hk, rfl, hall, hg, hh, hb⟩ := hrel
    by_cases hlt : k < 32
    · have q0 : (k : Int) < 32 := by omega
      have c0 := nums_cell hg k hlt
      have c1 := nums_cell hh k hlt
      have HG := Lib.hid hg
      have HH := Lib.hid hh
      have HB := Lib.hid hb
      have HA := Lib.hid hall
      have KK := Lib.hid (show k + 1 ≤ 32 ∧ 32 - (k + 1) < 32 - k by omega)
      have HL := Lib.hid (leqV_iff a b)
      obtain ⟨x, hx⟩ : ∃ x, x = allV a k := ⟨_, rfl⟩
      obtain ⟨y, hy⟩ : ∃ y, y = allV b k := ⟨_, rfl⟩
      rw [← hx] at c0
      rw [← hy] at c1
      by_cases hgt : x > y
      · have d1 : decide (x > y) = true := decide_eq_true hgt
        have HF := Lib.hid (show leqV a b = false by
          cases h : leqV a b with
          | false => rfl
          | true => have := HL.out.1 h k hlt; omega)
        clear hall hg hh hb hgt hx hy
        go_wp2
        go_quiet (fail)
        go_wp2
        go_ret
        exact ⟨by rw [HF.out]; rfl, below_draws HB.out _⟩
      · have d1 : decide (x > y) = false := decide_eq_false hgt
        have HN := Lib.hid (show ∀ i, i < k + 1 → allV a i ≤ allV b i from fun i hi => by
          by_cases e : i = k
          · subst e; omega
          · exact HA.out i (by omega))
        clear hall hg hh hb hgt hx hy
        go_wp2
        go_quiet (fail)
        go_wp2
        refine ⟨⟨k + 1, KK.out.1, by simp, HN.out, HG.out, HH.out, below_draws HB.out _⟩, ?_⟩
        have := KK.out.2; simp [intOf] <;> omega
    · have q0 : ¬ (k : Int) < 32 := by omega
      have HE := Lib.hid (show leqV a b = true from (leqV_iff a b).2 fun i hi => hall i (by omega))
      have HB := Lib.hid hb
      clear hall hg hh hb
      go_wp2
      go_ret
      exact ⟨by rw [HE.out]; rfl, HB.out⟩
end Go.Proofs.YthkojphgjlojgaaDoor
namespace Go.Proofs.YthkojphgjlojgaaDoor
open Go.RowKit
set_option maxRecDepth 100000 in
theorem strSize12 : (Tryd.prog.info? 9).map (·.size) = some 1 := by kernel_rfl
set_option maxRecDepth 100000 in
theorem ev_built (e : Ev) (ao : Option Addr) (n c : Nat) : Tryd.prog.built 36 [(0, .agg #[.int .i64 e.r, .int .i64 e.q]), (1, .slice ao n c), (2, .int .i64 e.kind), (3, .string (str e.path)), (4, .agg (row .u8 32 e.sum)), (5, .int .i64 e.size)] = some (evC e (.slice ao n c)) := by kernel_rfl
theorem build_yields {P : Program} {ops : Array Oper} {S : World → Prop} {o : Oper} {a : Act} (hw : Region.wanted o (yielded ops a.tmps) = true) (t : TypeId) (parts : Array (Nat × Operand)) (ho : o.op = .build t parts) (ps : List (Nat × Value)) (cs : Array Value)
    (hb : P.built t ps = some cs) (hp : (parts.map fun (i, x) => (i, a.eval x)).toList = ps) : YieldsIf P ops S o (.agg cs) a :=
  .inl ⟨hw, fun w _ => by
    subst hp
    unfold execOp
    simp only [ho, Sem.run_bind, run_build w t _ cs hb, Result.andThen_ok]
    rfl⟩
theorem store_ev_at {P : Program} {ops : Array Oper} {o : Oper} {a : Act} {w : World} {K : Act → World → Prop} {Q : Exit → Act → World → Prop} {E : Prop} (hd : o.dst = none) (hw : Region.wanted o (yielded ops a.tmps) = true) (ty : TypeId) (x y : Operand) (ho : o.op = .store ty x y)
    (g : Nat) (e e0 : Ev) (v v0 : Value) (hx : a.eval x = .pointer (some ⟨g, 0, none⟩)) (hy : a.eval y = .agg (evC e v)) (t : TypeId) (hg : EvAt w g t e0 v0) (hi : (P.info? ty).map (·.size) = some 38) (hv : v.oneCell' = true)
    (h : ∀ w', EvAt w' g t e v → Solo g w w' → K a w') : if Region.wanted o (yielded ops a.tmps) = true then Oper.wp P o a w K Q else E :=
  store_at hd hw ty x y ho g (evC e v) hx hy t _ hg (by rw [hi, evC_size]) (by rw [evC_size, evC_size]) (evC_one e v hv) (h _ (setRow_heap _ _ _ _ _ _ hg) (solo_setRow w g _))
theorem str_yields12 {P : Program} {ops : Array Oper} {S : World → Prop} {o : Oper} {a : Act} (hw : Region.wanted o (yielded ops a.tmps) = true) (ty : TypeId) (x : Operand) (ho : o.op = .load ty x)
    (ad : Addr) (hx : a.eval x = .pointer (some ad)) (s : ByteArray) (hu : P.underlying ty = some .string) (hS : ∀ w, S w → w.cell? ad = some (.string s)) : YieldsIf P ops S o (.string s) a :=
  .inl ⟨hw, fun w h => by
    have hc := hS w h
    unfold execOp
    simp [ho, hx, Instr.loadAt, Instr.sureAddr, loadVar, isAgg, run_underlying hu, hc]⟩
/-- An event stored by the one operation that is ready. -/
theorem ready_store_ev {P : Program} {md : Region.Mode} {ops : Array Oper} {Q : Exit → Act → World → Prop} {S : World → Prop} {fuel : Nat} {listed : Array Bool} {a : Act} {w : World} (i : Nat) (hr : Region.ready md ops listed = [i]) {o : Oper} (hoi : ops[i]? = some o)
    (hd : o.dst = none) (hw : Region.wanted o (yielded ops a.tmps) = true) (ty : TypeId) (x y : Operand) (ho : o.op = .store ty x y) (g : Nat) (e e0 : Ev) (v v0 : Value) (hx : a.eval x = .pointer (some ⟨g, 0, none⟩)) (hy : a.eval y = .agg (evC e v)) (t : TypeId)
    (hg : EvAt w g t e0 v0) (hi : (P.info? ty).map (·.size) = some 38) (hv : v.oneCell' = true)
    (h : ∀ w', EvAt w' g t e v → Solo g w w' → S w' ∧ wpAnyH P md ops Q S fuel (listed.setIfInBounds i true) a w') : wpAnyH P md ops Q S (fuel + 1) listed a w :=
  wpAnyH_ready hr (by simp) (AllReadyH.cons hoi (fun K hK => store_ev_at hd hw ty x y ho g e e0 v v0 hx hy t hg hi hv (fun w' h1 h2 => hK.out _ _ (h w' h1 h2).1 (fun _ => (h w' h1 h2).2))) AllReadyH.nil)
theorem dots_solo {w w' : World} {v : Value} {l : List D2} {g : Nat} (h : HasDots w v l) (hs : Solo g w w') (hne : l = [] ∨ v.ownBlock ≠ some g) : HasDots w' v l := by
  obtain ⟨ao, cap, rfl, hnil, hc⟩ := h
  refine ⟨ao, cap, rfl, hnil, fun ad had => ⟨(hc ad had).1, fun j u hu => ?_⟩⟩
  rcases hne with rfl | hne
  · simp [dotsC] at hu
  · have h1 := (hc ad had).2 j u hu
    refine (World.cell?_of_block (hs.block (ad.add j).block fun e => hne ?_)).trans h1
    rw [had]
    show some ad.block = some g
    rw [← e]; unfold Addr.add; split <;> rfl
theorem typ_solo {w w' : World} {v : Value} {l : List D2} {g : Nat} (h : TypDots w v l) (hs : Solo g w w') {cs : Array Value} {T : TypeId} {fr : Nat × Nat} (hg : w.heap[g]? = some (.cells cs T fr)) (hT : T ≠ 32) : TypDots w' v l := by
  have hne : l = [] ∨ v.ownBlock ≠ some g := h.2.elim .inl fun ⟨k, cs', fr', h1, h2⟩ => .inr fun e => by
    rw [h1] at e; cases e; rw [h2] at hg; cases hg; exact hT rfl
  refine ⟨dots_solo h.1 hs hne, h.2.elim .inl fun ⟨k, cs', fr', h1, h2⟩ => ?_⟩
  rcases hne with rfl | hne
  · exact .inl rfl
  · exact .inr ⟨k, cs', fr', h1, (hs.block k fun e => hne (by rw [h1, e])).trans h2⟩
theorem noEv_cells : evC noEv (.slice none 0 0) = #[.int .i64 0, .int .i64 0, .slice none 0 0, .int .i64 0, .string ⟨#[]⟩, .int .u8 0, .int .u8 0, .int .u8 0, .int .u8 0, .int .u8 0, .int .u8 0, .int .u8 0, .int .u8 0, .int .u8 0, .int .u8 0, .int .u8 0, .int .u8 0, .int .u8 0, .int .u8 0, .int .u8 0, .int .u8 0, .int .u8 0, .int .u8 0, .int .u8 0, .int .u8 0, .int .u8 0, .int .u8 0, .int .u8 0, .int .u8 0, .int .u8 0, .int .u8 0, .int .u8 0, .int .u8 0, .int .u8 0, .int .u8 0, .int .u8 0, .int .u8 0, .int .i64 0] := by rfl
set_option maxRecDepth 100000 in
theorem evSize : (Tryd.prog.info? 36).map (·.size) = some 38 := by kernel_rfl
set_option maxRecDepth 100000 in
theorem sumSize : (Tryd.prog.info? 34).map (·.size) = some 32 := by kernel_rfl
end Go.Proofs.YthkojphgjlojgaaDoor
namespace Go.Proofs.YthkojphgjlojgaaDoor
open Go.RowKit
/-- What lies in memory while a history is made: the result's block, what is known, the paths. -/
def HistAt (w0 w : World) (h : Hist) (out : Value) : Prop :=
  ∃ (a : Nat → Value) (us : List (Ev × Value)), us.map (·.1) = h.out ∧ OwnEvs (w0.heap.size + 3) w out us ∧
    w.heap[w0.heap.size]? = some (.cells #[.slice none 0 0, .slice none 0 0, .slice none 0 0] 27 (0, 0)) ∧
    w.heap[w0.heap.size + 1]? = some (.cells #[a 0, a 1, a 2] 27 (0, 0)) ∧ (∀ j, j < 3 → TypDots w (a j) (h.know j)) ∧
    w.heap[w0.heap.size + 2]? = some (.cells #[.string ⟨#[97]⟩, .string ⟨#[97, 47, 98]⟩, .string ⟨#[99]⟩, .string ⟨#[100]⟩] 9 (0, 0)) ∧ w0.heap.size + 3 ≤ w.heap.size ∧ Below w0.heap.size w0 w
theorem know_cell {w : World} {B : Nat} {T : TypeId} {a : Nat → Value} (h : w.heap[B]? = some (.cells #[a 0, a 1, a 2] T (0, 0))) {i : Nat} (hi : i < 3) : w.cell? ⟨B, i, none⟩ = some (a i) := by
  rw [cell_of_row _ _ i _ _ _ h]
  match i, hi with
  | 0, _ => rfl
  | 1, _ => rfl
  | 2, _ => rfl
theorem know_set (a : Nat → Value) (x : Value) {i : Nat} (hi : i < 3) : (#[a 0, a 1, a 2] : Array Value).setIfInBounds i x = #[(fun j => if j = i then x else a j) 0, (fun j => if j = i then x else a j) 1, (fun j => if j = i then x else a j) 2] := by
  match i, hi with
  | 0, _ => rfl
  | 1, _ => rfl
  | 2, _ => rfl
theorem deed_nums (r K : Nat) (hr : r < 256) : wrap64 (r : Int) = (r : Int) ∧ (r : Int).tmod (K : Int) = ((r % K : Nat) : Int) ∧ (r : Int) % (K : Int) = ((r % K : Nat) : Int) := by
  refine ⟨by rw [wrap64]; omega, ?_, rfl⟩
  rw [Int.tmod_eq_emod_of_nonneg (by omega)]; rfl
theorem deed_wrap (r : Nat) (hr : r < 256) : IntKind.i64.wrap (r : Int) = (r : Int) := by rw [IntKind.wrap_i64]; omega
theorem deed_run {P : Program} {o : Oper} {a : Act} {w : World} (ty : TypeId) (x : Operand) (ho : o.op = .load ty x) (A : Addr) (hx : a.eval x = .pointer (some A)) {d : DeedT} {fs : Array Field} (hu : P.underlying ty = some (.struct fs))
    (hi : (P.info? ty).map (·.size) = some 6) (hc : ∀ j u, (deedC d)[j]? = some u → w.cell? (A.add j) = some u) : (execOp a.eval o).run P w = .ok (.value (.agg (deedC d).toArray)) w := by
  have hl : (loadCells A (deedC d).length).run P w = .ok (deedC d).toArray w := run_loadCells_list (P := P) w A _ hc
  rw [show (deedC d).length = 6 from rfl] at hl
  cases hq : P.info? ty with
  | none => simp [hq] at hi
  | some i =>
    have hs : i.size = 6 := by simpa [hq] using hi
    unfold execOp
    simp [ho, hx, Instr.loadAt, Instr.sureAddr, loadVar, isAgg, run_underlying hu, sizeOf, typeInfo, hq, hs, hl]
theorem load_deed {P : Program} {ops : Array Oper} {rest : List Oper} {o : Oper} {a : Act} {w : World} {Q : Exit → Act → World → Prop} (hw : Region.wanted o (yielded ops a.tmps) = true) (ty : TypeId) (x : Operand) (ho : o.op = .load ty x) (A : Addr) (hx : a.eval x = .pointer (some A)) {d : DeedT} {fs : Array Field}
    (hu : P.underlying ty = some (.struct fs)) (hi : (P.info? ty).map (·.size) = some 6) (hc : ∀ j u, (deedC d)[j]? = some u → w.cell? (A.add j) = some u)
    (h : wpList P ops Q rest (a.put o.dst (.agg #[.int .u8 (d.who : Int), .int .u8 (d.other : Int), .int .u8 (d.path : Int), .bool d.learns, .bool d.gone, .int .u8 (d.size : Int)])) w) : wpList P ops Q (o :: rest) a w := by
  refine wpList_step fun K hK => ?_
  rw [if_pos hw]
  unfold Oper.wp
  rw [deed_run ty x ho A hx hu hi hc]
  exact hK _ _ h
set_option maxRecDepth 100000 in
theorem deedSize : (Tryd.prog.info? 56).map (·.size) = some 6 := by kernel_rfl
theorem deeds_at {w : World} {v : Value} {l : List DeedT} (h : HasDeeds w v l) (n k : Nat) (hn : l.length = n) (d : DeedT) (hd : l[k]? = some d) : ∃ ad cap, v = .slice (some ad) n cap ∧ ∀ j u, (deedC d)[j]? = some u → w.cell? ((ad.add (k * 6)).add j) = some u := by
  obtain ⟨ao, cap, rfl, hnil, hc⟩ := h
  cases ao with
  | none => obtain ⟨rfl, _⟩ := hnil rfl; simp at hd
  | some ad => exact ⟨ad, cap, by rw [hn], fun j u hu => by rw [addr_add2]; exact (hc ad rfl).2 k d hd j u hu⟩
theorem hist_start (w : World) : HistAt w (((w.alloc (.cells #[.slice none 0 0, .slice none 0 0, .slice none 0 0] 27 (0, 0))).alloc (.cells #[.slice none 0 0, .slice none 0 0, .slice none 0 0] 27 (0, 0))).alloc (.cells #[.string ⟨#[97]⟩, .string ⟨#[97, 47, 98]⟩, .string ⟨#[99]⟩, .string ⟨#[100]⟩] 9 (0, 0))) hist0 (.slice none 0 0) := by
  have h0 := heap_last w (.cells #[.slice none 0 0, .slice none 0 0, .slice none 0 0] 27 (0, 0))
  have hb0 := (Below.refl w.heap.size w).alloc (Nat.le_refl _) (.cells #[.slice none 0 0, .slice none 0 0, .slice none 0 0] 27 (0, 0))
  have s0 : (w.alloc (.cells #[.slice none 0 0, .slice none 0 0, .slice none 0 0] 27 (0, 0))).heap.size = w.heap.size + 1 := by simp
  generalize w.alloc (.cells #[.slice none 0 0, .slice none 0 0, .slice none 0 0] 27 (0, 0)) = W0 at *
  have h1 := heap_last W0 (.cells #[.slice none 0 0, .slice none 0 0, .slice none 0 0] 27 (0, 0))
  have hb1 := (Below.refl W0.heap.size W0).alloc (Nat.le_refl _) (.cells #[.slice none 0 0, .slice none 0 0, .slice none 0 0] 27 (0, 0))
  have s1 : (W0.alloc (.cells #[.slice none 0 0, .slice none 0 0, .slice none 0 0] 27 (0, 0))).heap.size = w.heap.size + 2 := by simp [s0]
  generalize W0.alloc (.cells #[.slice none 0 0, .slice none 0 0, .slice none 0 0] 27 (0, 0)) = W1 at *
  have h2 := heap_last W1 (.cells #[.string ⟨#[97]⟩, .string ⟨#[97, 47, 98]⟩, .string ⟨#[99]⟩, .string ⟨#[100]⟩] 9 (0, 0))
  have hb2 := (Below.refl W1.heap.size W1).alloc (Nat.le_refl _) (.cells #[.string ⟨#[97]⟩, .string ⟨#[97, 47, 98]⟩, .string ⟨#[99]⟩, .string ⟨#[100]⟩] 9 (0, 0))
  have s2 : (W1.alloc (.cells #[.string ⟨#[97]⟩, .string ⟨#[97, 47, 98]⟩, .string ⟨#[99]⟩, .string ⟨#[100]⟩] 9 (0, 0))).heap.size = w.heap.size + 3 := by simp [s1]
  rw [s0] at h1
  rw [s1] at h2
  refine ⟨fun _ => .slice none 0 0, [], rfl, ownEvs_nil _ _, row_kept (row_kept h0 hb1) hb2, row_kept h1 hb2, fun j _ => typ_nil _, h2, by omega, below_next (below_next hb0 hb1) hb2⟩
/-- A slice loaded from a cell, within a region. -/
theorem load_cell_at {P : Program} {ops : Array Oper} {o : Oper} {ts : Array Value} {ds : List Deferred} {w : World} {K : Act → World → Prop} {Q : Exit → Act → World → Prop} {E : Prop} (d : Nat) (hd : o.dst = some d) (hw : Region.wanted o (yielded ops ts) = true) (ty : TypeId) (x : Operand) (ho : o.op = .load ty x)
    (A : Addr) (hx : Act.eval { tmps := ts, defers := ds } x = .pointer (some A)) (ao : Option Addr) (n c : Nat) {e : TypeId} (hu : P.underlying ty = some (.slice e)) (hc : w.cell? A = some (.slice ao n c))
    (h : K { tmps := ts.setIfInBounds d (.slice ao n c), defers := ds } w) : if Region.wanted o (yielded ops ts) = true then Oper.wp P o { tmps := ts, defers := ds } w K Q else E := by
  rw [if_pos hw]
  have hy : (execOp (Act.eval { tmps := ts, defers := ds }) o).run P w = .ok (.value (.slice ao n c)) w := by
    unfold execOp
    simp [ho, hx, Instr.loadAt, Instr.sureAddr, loadVar, isAgg, run_underlying hu, hc]
  unfold Oper.wp
  rw [hy]
  simpa [Oper.upon, hd, Act.put] using h
/-- A slice stored in a cell of a block that is known whole, within a region. -/
theorem store_slice_at {P : Program} {ops : Array Oper} {o : Oper} {a : Act} {w : World} {K : Act → World → Prop} {Q : Exit → Act → World → Prop} {E : Prop} (hd : o.dst = none) (hw : Region.wanted o (yielded ops a.tmps) = true) (ty : TypeId) (x y : Operand) (ho : o.op = .store ty x y)
    (g off : Nat) (cur : Array Value) (ao : Option Addr) (n c : Nat) (t : TypeId) (hg : w.heap[g]? = some (.cells cur t (0, 0))) (hx : a.eval x = .pointer (some ⟨g, off, none⟩)) (hy : a.eval y = .slice ao n c) (hfit : off < cur.size)
    (hi : (P.info? ty).map (·.size) = some 1) (h : ∀ w', w'.heap[g]? = some (.cells (cur.setIfInBounds off (.slice ao n c)) t (0, 0)) → Solo g w w' → K a w') : if Region.wanted o (yielded ops a.tmps) = true then Oper.wp P o a w K Q else E := by
  rw [if_pos hw]
  have hcell : w.cell? ⟨g, off, none⟩ = some cur[off] := by simp [World.cell?, hg, hfit]
  have hfro : w.frozen? ⟨g, off, none⟩ = false := by simp [World.frozen?, hg]
  have hadd : (⟨g, off, none⟩ : Addr).add 0 = ⟨g, off, none⟩ := by unfold Addr.add; split <;> simp_all
  have hst : (storeVar ty ⟨g, off, none⟩ (.slice ao n c)).run P w = .ok () (w.setRow g (cur.setIfInBounds off (.slice ao n c))) := by
    cases hq : P.info? ty with
    | none => simp [hq] at hi
    | some i =>
      have hs : i.size = 1 := by simpa [hq] using hi
      simp [storeVar, sizeOf, typeInfo, hq, Value.cells, hs, storeCells, hadd, run_store P w _ _ _ (show (Value.slice ao n c).oneCell' = true from rfl), hcell, hfro, setCell_eq_setRow w g off cur t (0, 0) _ hg]
  unfold Oper.wp execOp
  simp only [ho, hx, hy, Instr.storeAt, Instr.sureAddr, Sem.run_bind, Sem.run_pure, Result.andThen_ok, hst]
  have h' := h _ (setRow_heap w g cur _ t _ hg) (solo_setRow w g _)
  simpa [Oper.upon, hd, Act.put] using h'
theorem own_solo {w w' : World} {base g : Nat} {e : TypeId} {size : Nat} {v : Value} {n : Nat} {xs : List Value} (h : w.ownsRow base e size v n xs) (hs : Solo g w w') (hg : g < base) : w'.ownsRow base e size v n xs := by
  refine ⟨h.1, ?_⟩
  rcases h.2 with h0 | ⟨b, cap, cur, rfl, h1, h2, rest⟩
  · exact .inl h0
  · exact .inr ⟨b, cap, cur, rfl, h1, (hs.block b (by omega)).trans h2, rest⟩
set_option maxRecDepth 100000 in
theorem vecSize12 : (Tryd.prog.info? 26).map (·.size) = some 1 := by kernel_rfl
theorem hist_learn {w0 wz w9 : World} {h : Hist} {d : DeedT} {out : Value} {a : Nat → Value} {us : List (Ev × Value)} {i oo : Nat} {ao : Option Addr} {n c : Nat} (hL : d.learns = true) (hi : i = d.who % 3) (hoo : oo = d.other % 3) (hi3 : i < 3) (hus : us.map (·.1) = h.out)
    (r1 : wz.heap[w0.heap.size]? = some (.cells #[.slice none 0 0, .slice none 0 0, .slice none 0 0] 27 (0, 0))) (r2 : wz.heap[w0.heap.size + 1]? = some (.cells #[a 0, a 1, a 2] 27 (0, 0)))
    (r3 : wz.heap[w0.heap.size + 2]? = some (.cells #[.string ⟨#[97]⟩, .string ⟨#[97, 47, 98]⟩, .string ⟨#[99]⟩, .string ⟨#[100]⟩] 9 (0, 0))) (r4 : w0.heap.size + 3 ≤ wz.heap.size)
    (hy : ∀ j, j < 3 → TypDots wz (a j) (h.know j)) (ho : OwnEvs (w0.heap.size + 3) wz out us) (hu : TypDots wz (.slice ao n c) (joinV (h.know i) (h.know oo)))
    (hg : w9.heap[w0.heap.size + 1]? = some (.cells ((#[a 0, a 1, a 2] : Array Value).setIfInBounds i (.slice ao n c)) 27 (0, 0))) (hs : Solo (w0.heap.size + 1) wz w9) (hb : Below w0.heap.size w0 w9) : HistAt w0 w9 (stepH h d) out := by
  rw [know_set a _ hi3] at hg
  have hstep : stepH h d = ⟨putK h.know i (joinV (h.know i) (h.know oo)), h.out⟩ := by rw [stepH, if_pos hL, hi, hoo]
  rw [hstep]
  refine ⟨fun j => if j = i then .slice ao n c else a j, us, hus, ⟨own_solo ho.1 hs (by omega), fun x hx => typ_solo (ho.2 x hx) hs r2 (by decide)⟩, (hs.block _ (by omega)).trans r1, hg, fun j hj => ?_, (hs.block _ (by omega)).trans r3, by rw [hs.size]; exact r4, hb⟩
  by_cases hji : j = i
  · simp only [if_pos hji, putK]; exact typ_solo hu hs r2 (by decide)
  · simp only [if_neg hji, putK]; exact typ_solo (hy j hj) hs r2 (by decide)
theorem ready_allocH {P : Program} {md : Region.Mode} {ops : Array Oper} {Q : Exit → Act → World → Prop} {S : World → Prop} {fuel : Nat} {listed : Array Bool} {ts : Array Value} {ds : List Deferred} {w : World} (i d : Nat) (hr : Region.ready md ops listed = [i]) {o : Oper} (hoi : ops[i]? = some o) (hd : o.dst = some d) (hw : Region.wanted o (yielded ops ts) = true) (t : TypeId) (ho : o.op = .alloc t) (cs : Array Value)
    (hz : (P.info? t).map (fun i => i.zero) = some (some (.agg cs))) (hS : S (w.alloc (.cells cs t (0, 0))))
    (h : wpAnyH P md ops Q S fuel (listed.setIfInBounds i true) { tmps := ts.setIfInBounds d (.pointer (some ⟨w.heap.size, 0, none⟩)), defers := ds } (w.alloc (.cells cs t (0, 0)))) : wpAnyH P md ops Q S (fuel + 1) listed { tmps := ts, defers := ds } w :=
  wpAnyH_ready hr (by simp) (AllReadyH.cons hoi (fun K hK => alloc_at d hd hw t ho cs hz (hK.out _ _ hS (fun _ => h))) AllReadyH.nil)
set_option maxRecDepth 100000 in
theorem ev_zeroH : (Tryd.prog.info? 36).map (fun i => i.zero) = some (some (.agg (evC noEv (.slice none 0 0)))) := by kernel_rfl
theorem row_sizeF {n : Nat} (hn : n < 256) : row .u8 32 (sizeF n) = #[.int .u8 (n : Int), .int .u8 0, .int .u8 0, .int .u8 0, .int .u8 0, .int .u8 0, .int .u8 0, .int .u8 0, .int .u8 0, .int .u8 0, .int .u8 0, .int .u8 0, .int .u8 0, .int .u8 0, .int .u8 0, .int .u8 0, .int .u8 0, .int .u8 0, .int .u8 0, .int .u8 0, .int .u8 0, .int .u8 0, .int .u8 0, .int .u8 0, .int .u8 0, .int .u8 0, .int .u8 0, .int .u8 0, .int .u8 0, .int .u8 0, .int .u8 0, .int .u8 0] := by
  have h : u32 (sizeF n 0) = (n : Int) := by
    show u32 (BitVec.ofNat 32 n) = _
    unfold u32; rw [BitVec.toNat_ofNat]; omega
  rw [← h]; rfl
set_option maxRecDepth 100000 in
theorem dig_built {n : Nat} (hn : n < 256) : Tryd.prog.built 34 [(0, .int .u8 (n : Int))] = some (row .u8 32 (sizeF n)) := by
  rw [row_sizeF hn]; kernel_rfl
theorem path_cellH {w : World} {B : Nat} {T : TypeId} (h : w.heap[B]? = some (.cells #[.string ⟨#[97]⟩, .string ⟨#[97, 47, 98]⟩, .string ⟨#[99]⟩, .string ⟨#[100]⟩] T (0, 0))) {k : Nat} (hk : k < 4) : w.cell? ⟨B, k, none⟩ = some (.string (str (pathsH.getD k []))) := by
  rw [cell_of_row _ _ k _ _ _ h]
  match k, hk with
  | 0, _ => rfl
  | 1, _ => rfl
  | 2, _ => rfl
  | 3, _ => rfl
theorem slice_yields12H {P : Program} {ops : Array Oper} {S : World → Prop} {o : Oper} {a : Act} (hw : Region.wanted o (yielded ops a.tmps) = true) (ty : TypeId) (x : Operand) (ho : o.op = .load ty x)
    (A : Addr) (hx : a.eval x = .pointer (some A)) (ao : Option Addr) (n c : Nat) {e : TypeId} (hu : P.underlying ty = some (.slice e)) (hS : ∀ w, S w → w.cell? A = some (.slice ao n c)) : YieldsIf P ops S o (.slice ao n c) a :=
  .inl ⟨hw, fun w h => by
    have hc := hS w h
    unfold execOp
    simp [ho, hx, Instr.loadAt, Instr.sureAddr, loadVar, isAgg, run_underlying hu, hc]⟩
theorem take_step {l : List DeedT} {k : Nat} {d : DeedT} (hd : l[k]? = some d) (h : Hist) : (l.take (k + 1)).foldl stepH h = stepH ((l.take k).foldl stepH h) d := by
  rw [List.take_add_one, hd, List.foldl_append]; rfl
theorem inv_take (l : List DeedT) (hs : ∀ d ∈ l, d.size < 256) (k : Nat) (hk : k ≤ 40) : ∃ n, InvH ((l.take k).foldl stepH hist0) n := by
  have hl : (l.take k).length ≤ 40 := by rw [List.length_take]; omega
  exact ⟨_, inv_fold (l.take k) hist0 0 inv0 (by omega) (fun d hd => hs d (List.mem_of_mem_take hd))⟩
theorem know_len {h : Hist} {n : Nat} (H : InvH h n) {i : Nat} (hi : i < 3) : (h.know i).length < 2000000 := by
  have := rising_length (H.vec i hi); omega
theorem results_tmp_cell {fn : Func} {p u : Tmp} {ty : TypeId} (h : fn.results = #[.tmp u, .cell p ty]) (tmps : Array Value) (P : Program) (w : World) :
    (results fn tmps).run P w =
      ((asAddr (tmps.getD p undef)).run P w).andThen fun a w₁ => ((loadVar ty a).run P w₁).andThen fun v w₂ => .ok (.tuple #[tmps.getD u undef, v]) w₂ := by
  simp only [results, h]
  simp [Sem.run_bind, Result.andThen]
theorem results_2cell {P : Program} {fn : Func} {p u : Tmp} {ty : TypeId} (h : fn.results = #[.tmp u, .cell p ty]) (tmps : Array Value) (w : World) (g : Nat) (t : TypeId) (cs : Array Value) (fr : Nat × Nat) (d : TypeDesc) (x : Value)
    (hp : tmps.getD p undef = .pointer (some ⟨g, 0, none⟩)) (hx : tmps.getD u undef = x) (hg : w.heap[g]? = some (.cells cs t fr))
    (hu : P.underlying ty = some d) (hd : (match d with | .struct _ | .array _ _ => true | _ => false) = true) (hi : (P.info? ty).map (·.size) = some cs.size) :
    (results fn tmps).run P w = .ok (.tuple #[x, .agg cs]) w := by
  rw [results_tmp_cell h, hp, hx]
  simp [asAddr, run_loadVar_row w g t ty cs fr d hg hu hd hi]
theorem dots_grownH {w w' : World} {v : Value} {l : List D2} {row : Option Nat} (h : HasDots w v l) (hg : w.grownBy w' row) (hne : l = [] ∨ v.ownBlock ≠ row) : HasDots w' v l := by
  obtain ⟨ao, cap, rfl, hnil, hc⟩ := h
  refine ⟨ao, cap, rfl, hnil, fun ad had => ⟨(hc ad had).1, fun j u hu => ?_⟩⟩
  rcases hne with rfl | hne
  · simp [dotsC] at hu
  · have h1 := (hc ad had).2 j u hu
    refine hg.cell h1 fun e => hne ?_
    rw [had]
    show some ad.block = row
    rw [← e]; unfold Addr.add; split <;> rfl
theorem typ_grown {w w' : World} {v : Value} {l : List D2} {row : Option Nat} (h : TypDots w v l) (hg : w.grownBy w' row) (hrow : ∀ k, row = some k → ∃ cs T fr, T ≠ 32 ∧ w.heap[k]? = some (.cells cs T fr)) : TypDots w' v l := by
  have hne : l = [] ∨ v.ownBlock ≠ row := h.2.elim .inl fun ⟨k, cs', fr', h1, h2⟩ => .inr fun e => by
    obtain ⟨cs, T, fr, h3, h4⟩ := hrow k (by rw [← e, h1])
    rw [h2] at h4; cases h4; exact h3 rfl
  refine ⟨dots_grownH h.1 hg hne, h.2.elim .inl fun ⟨k, cs', fr', h1, h2⟩ => ?_⟩
  rcases hne with rfl | hne
  · exact .inl rfl
  · exact .inr ⟨k, cs', fr', h1, (hg.block k (Array.getElem?_eq_some_iff.1 h2).1 (fun e => hne (by rw [h1, e]))).trans h2⟩
theorem own_blockH {w : World} {base : Nat} {e : TypeId} {size : Nat} {v : Value} {n : Nat} {xs : List Value} (h : w.ownsRow base e size v n xs) : ∀ b, v.ownBlock = some b → base ≤ b ∧ b < w.heap.size ∧ ∃ cs, w.heap[b]? = some (.cells cs e (0, 0)) := by
  intro b hb
  rcases h.2 with ⟨rfl, -⟩ | ⟨g, cap, cur, rfl, h1, h2, -⟩
  · cases hb
  · cases hb; exact ⟨h1, (Array.getElem?_eq_some_iff.1 h2).1, cur, h2⟩
theorem own_solo2 {w w' : World} {base g : Nat} {e : TypeId} {size : Nat} {v : Value} {n : Nat} {xs : List Value} (h : w.ownsRow base e size v n xs) (hs : Solo g w w') (hg : ∀ b, v.ownBlock = some b → b ≠ g) : w'.ownsRow base e size v n xs := by
  refine ⟨h.1, ?_⟩
  rcases h.2 with h0 | ⟨b, cap, cur, rfl, h1, h2, rest⟩
  · exact .inl h0
  · exact .inr ⟨b, cap, cur, rfl, h1, (hs.block b (hg b rfl)).trans h2, rest⟩
/-- What lies in memory while an event is being made in block g. -/
structure HistMid (w0 w : World) (a : Nat → Value) (h : Hist) (out : Value) (us : List (Ev × Value)) (g : Nat) : Prop where
  r1 : w.heap[w0.heap.size]? = some (.cells #[.slice none 0 0, .slice none 0 0, .slice none 0 0] 27 (0, 0))
  r2 : w.heap[w0.heap.size + 1]? = some (.cells #[a 0, a 1, a 2] 27 (0, 0))
  r3 : w.heap[w0.heap.size + 2]? = some (.cells #[.string ⟨#[97]⟩, .string ⟨#[97, 47, 98]⟩, .string ⟨#[99]⟩, .string ⟨#[100]⟩] 9 (0, 0))
  typ : ∀ j, j < 3 → TypDots w (a j) (h.know j)
  own : OwnEvs (w0.heap.size + 3) w out us
  low : w0.heap.size + 3 ≤ g
  apart : ∀ b, out.ownBlock = some b → b < g
  top : g < w.heap.size
  bel : Below w0.heap.size w0 w
theorem histMid_below {w0 w w' : World} {a : Nat → Value} {h : Hist} {out : Value} {us : List (Ev × Value)} {g : Nat} (H : HistMid w0 w a h out us g) (hb : Below w.heap.size w w') : HistMid w0 w' a h out us g :=
  ⟨row_kept H.r1 hb, row_kept H.r2 hb, row_kept H.r3 hb, fun j hj => typ_below (H.typ j hj) hb, ⟨own_below H.own.1 hb, fun x hx => typ_below (H.own.2 x hx) hb⟩, H.low, H.apart, Nat.lt_of_lt_of_le H.top hb.size, below_next H.bel hb⟩
theorem histMid_solo {w0 w w' : World} {a : Nat → Value} {h : Hist} {out : Value} {us : List (Ev × Value)} {g : Nat} {e : Ev} {v : Value} (H : HistMid w0 w a h out us g) (he : EvAt w g 36 e v) (hs : Solo g w w') : HistMid w0 w' a h out us g := by
  have hl := H.low
  exact ⟨(hs.block _ (by omega)).trans H.r1, (hs.block _ (by omega)).trans H.r2, (hs.block _ (by omega)).trans H.r3, fun j hj => typ_solo (H.typ j hj) hs he (by decide),
    ⟨own_solo2 H.own.1 hs (fun b hb => by have := H.apart b hb; omega), fun x hx => typ_solo (H.own.2 x hx) hs he (by decide)⟩, H.low, H.apart, by rw [hs.size]; exact H.top, solo_below H.bel hs (by omega)⟩
theorem hist_event {w0 wz w9 wA w10 : World} {h : Hist} {d : DeedT} {out out' : Value} {a : Nat → Value} {us : List (Ev × Value)} {i g : Nat} {ao : Option Addr} {n c : Nat} {vd : Value} (hL : d.learns = false) (hi : i = d.who % 3) (hi3 : i < 3) (hus : us.map (·.1) = h.out)
    (H : HistMid w0 wz a h out us g) (hvd : vd = a i) (hu : TypDots wz (.slice ao n c) (withV (h.know i) (evH h d).r (evH h d).q))
    (hg : w9.heap[w0.heap.size + 1]? = some (.cells ((#[a 0, a 1, a 2] : Array Value).setIfInBounds i (.slice ao n c)) 27 (0, 0))) (hs : Solo (w0.heap.size + 1) wz w9) (hA : Below w9.heap.size w9 wA)
    (hown : w10.ownsRow (w0.heap.size + 3) 36 38 out' (us ++ [(evH h d, vd)]).length (evsC (us ++ [(evH h d, vd)]))) (hgr : wA.grownBy w10 out.ownBlock) : HistAt w0 w10 (stepH h d) out' := by
  have hl := H.low
  have htop := H.top
  rw [know_set a _ hi3] at hg
  have hstep : stepH h d = ⟨putK h.know i (withV (h.know i) (evH h d).r (evH h d).q), h.out ++ [evH h d]⟩ := by rw [stepH, hL, if_neg (by simp), hi]
  have hob := own_blockH H.own.1
  have h9 : w9.heap.size = wz.heap.size := hs.size
  have szA := hA.size
  have hold : ∀ b, out.ownBlock = some b → ∃ cs T fr, T ≠ 32 ∧ wA.heap[b]? = some (.cells cs T fr) := fun b hb => by
    obtain ⟨h1, h2, cs, h3⟩ := hob b hb
    exact ⟨cs, 36, (0, 0), by decide, row_kept ((hs.block b (by omega)).trans h3) hA⟩
  have low : ∀ {B : Nat} {o : Obj}, B < w0.heap.size + 3 → w9.heap[B]? = some o → w10.heap[B]? = some o := fun {B o} hB ho => by
    have hlt : B < w9.heap.size := (Array.getElem?_eq_some_iff.1 ho).1
    exact (hgr.block B (by omega) (fun e => by have := (hob B e.symm).1; omega)).trans ((hA.block B hlt).trans ho)
  have ty : ∀ {v : Value} {l : List D2}, TypDots wz v l → TypDots w10 v l := fun {v l} ht => typ_grown (typ_below (typ_solo ht hs H.r2 (by decide)) hA) hgr hold
  rw [hstep]
  refine ⟨fun j => if j = i then .slice ao n c else a j, us ++ [(evH h d, vd)], by rw [List.map_append, hus]; rfl, ⟨hown, fun x hx => ?_⟩, low (by omega) ((hs.block _ (by omega)).trans H.r1), low (by omega) hg, fun j hj => ?_, low (by omega) ((hs.block _ (by omega)).trans H.r3), ?_, ?_⟩
  · rcases List.mem_append.1 hx with hx | hx
    · exact ty (H.own.2 x hx)
    · rw [List.mem_singleton.1 hx, hvd]
      have := H.typ i hi3
      exact ty (show TypDots wz (a i) (evH h d).deps by unfold evH; rw [← hi]; exact this)
  · by_cases hji : j = i
    · simp only [if_pos hji, putK]; exact ty hu
    · simp only [if_neg hji, putK]; exact ty (H.typ j hj)
  · have := hgr.size; omega
  · refine below_grown (below_next (solo_below H.bel hs (by omega)) hA) hgr (by have := H.bel.size; omega) (fun b hb => ?_)
    have := (hob b hb).1; omega
set_option maxRecDepth 100000 in
theorem ev_slice1 (e : Ev) (ao : Option Addr) (n c : Nat) : Tryd.prog.builtSlice 36 1 [(0, .agg (evC e (.slice ao n c)))] = some (evC e (.slice ao n c)) := by kernel_rfl
/-- A slice of one event, made. -/
theorem build_ev1 {ops : Array Oper} {rest : List Oper} {o : Oper} {a : Act} {w : World} {Q : Exit → Act → World → Prop} (hg : o.guard = none) (d : Nat) (hd : o.dst = some d) (x : Operand) (ho : o.op = .buildSlice 24 1 #[(0, x)])
    (N : Nat) (hN : w.heap.size = N) (e : Ev) (ao : Option Addr) (n c : Nat) (hx : a.eval x = .agg (evC e (.slice ao n c)))
    (h : ∀ w', EvAt w' N 36 e (.slice ao n c) → Below w.heap.size w w' → N < w'.heap.size → wpList Tryd.prog ops Q rest (a.put (some d) (.slice (some ⟨N, 0, none⟩) 1 1)) w') : wpList Tryd.prog ops Q (o :: rest) a w := by
  refine Go.Great.wpList_buildSliceTo hg 24 36 1 #[(0, x)] ho N hN (some d) hd Tryd.underlying24 (evC e (.slice ao n c)) ?_ (h _ ?_ ((Below.refl _ _).alloc (Nat.le_refl _) _) ?_)
  · have hp : ((#[(0, x)] : Array (Nat × Operand)).map fun (i, x) => (i, a.eval x)).toList = [(0, .agg (evC e (.slice ao n c)))] := by simp [hx]
    rw [hp]; exact ev_slice1 e ao n c
  · rw [← hN]; exact heap_last _ _
  · rw [size_of_alloc, hN]; omega
theorem hist_len (l : List DeedT) : ∀ k, ((l.take k).foldl stepH hist0).out.length ≤ k
  | 0 => by simp [hist0]
  | k + 1 => by
    have ih := hist_len l k
    cases hd : l[k]? with
    | none => rw [List.take_add_one, hd]; simpa using Nat.le_succ_of_le ih
    | some d =>
      rw [take_step hd]
      generalize (l.take k).foldl stepH hist0 = h at *
      unfold stepH
      split
      · exact Nat.le_succ_of_le ih
      · simp only [List.length_append, List.length_cons, List.length_nil]; omega
set_option maxRecDepth 100000 in
theorem intSizeH : (Tryd.prog.info? 3).map (·.size) = some 1 := by kernel_rfl
set_option maxRecDepth 100000 in
theorem ev_kindH (e : Ev) (v : Value) (k : Int) : (evC e v).setIfInBounds 3 (.int .i64 k) = evC ⟨e.r, e.q, e.deps, k, e.path, e.sum, e.size⟩ v := by kernel_rfl
set_option maxRecDepth 100000 in
theorem ev_sizeH (e : Ev) (v : Value) (k : Int) : (evC e v).setIfInBounds 37 (.int .i64 k) = evC ⟨e.r, e.q, e.deps, e.kind, e.path, e.sum, k⟩ v := by kernel_rfl
set_option maxRecDepth 100000 in
theorem ev_sumH (e : Ev) (v : Value) (f : Nat → BitVec 32) : (splice (evC e v).toList 5 (row .u8 32 f).toList).toArray = evC ⟨e.r, e.q, e.deps, e.kind, e.path, f, e.size⟩ v := by kernel_rfl
theorem row_onesH (f : Nat → BitVec 32) : ∀ u ∈ (row .u8 32 f).toList, u.oneCell' = true := fun u hu => (Array.all_eq_true_iff_forall_mem.1 (row_one .u8 32 f)) u (by simpa using hu)
set_option maxRecDepth 100000 in
theorem dig_built0 : Tryd.prog.built 34 [] = some (row .u8 32 zeroF) := by kernel_rfl
theorem load_cell_on {P : Program} {ops : Array Oper} {rest : List Oper} {o : Oper} {a : Act} {w : World} {Q : Exit → Act → World → Prop} (hw : Region.wanted o (yielded ops a.tmps) = true) (ty : TypeId) (x : Operand) (ho : o.op = .load ty x)
    (A : Addr) (hx : a.eval x = .pointer (some A)) (b : Bool) (hu : P.underlying ty = some .bool) (hc : w.cell? A = some (.bool b)) (h : wpList P ops Q rest (a.put o.dst (.bool b)) w) : wpList P ops Q (o :: rest) a w := by
  have hy : (execOp a.eval o).run P w = .ok (.value (.bool b)) w := by
    unfold execOp
    simp [ho, hx, Instr.loadAt, Instr.sureAddr, loadVar, isAgg, run_underlying hu, hc]
  refine wpList_step fun K hK => ?_
  rw [if_pos hw]
  unfold Oper.wp
  rw [hy]
  exact hK _ _ h
end Go.Proofs.YthkojphgjlojgaaDoor
