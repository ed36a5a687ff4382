/-
The closure that lays a header's fields, each where the one ahead of it ended, walked over the landed code.
-/
import Derived.Test.YtbjekhhefepnlaaDoorOctalCode
namespace Go.Proofs.YtbjekhhefepnlaaDoor
open Go.RowKit
/-- Bytes as a list of cells. -/
def cellsL (l : List UInt8) : List Value := l.map fun b => Value.int .u8 (b.toNat : Int)
theorem cellsL_length (l : List UInt8) : (cellsL l).length = l.length := List.length_map _
theorem cellsL_row (l : List UInt8) : (cellsL l).toArray = byteRow l := rfl
theorem splice_row (L : List UInt8) (o : Nat) (F : List UInt8) : (splice (cellsL L) o (cellsL F)).toArray = byteRow (splice L o F) := by
  simp [splice, byteRow, cellsL]
/-- A block of bytes, and a variable that says where the next field is laid in it. -/
def Laying (w : World) (H B : Nat) (L : List UInt8) (o n cap : Nat) : Prop :=
  w.heap[H]? = some (.cells (byteRow L) 5 (0, 0)) ∧ w.heap[B]? = some (.cells #[.slice (some ⟨H, o, none⟩) n cap] 22 (0, 0)) ∧ H ≠ B
theorem laying_below {w w' : World} {H B : Nat} {L : List UInt8} {o n cap : Nat} (h : Laying w H B L o n cap) (hb : Below w.heap.size w w') : Laying w' H B L o n cap :=
  ⟨(hb.block H (lt_of_block h.1)).trans h.1, (hb.block B (lt_of_block h.2.1)).trans h.2.1, h.2.2⟩
theorem layer_any (w : World) (ad : Addr) (n cap : Nat) : Calls Tryd.prog 31 #[.slice (some ad) n cap] w fun e w' => e = .returned (.func (.func 42) #[] #[.pointer (some ⟨w.heap.size, 0, none⟩)]) ∧ w' = w.alloc (.cells #[.slice (some ad) n cap] 22 (0, 0)) := by
  have hmf : ∀ (fn : Fn) (first cap : Array Value) (w : World), (Instr.makeFunc fn first cap).run Tryd.prog w = .ok (.func fn first cap) w := fun _ _ _ _ => rfl
  go_enter Tryd.func31, Tryd.ntmps31
  go_wp2
  go_ret
  exact ⟨rfl, rfl⟩
set_option maxHeartbeats 4000000 in
theorem field_any (w : World) (base H B : Nat) (L F : List UInt8) (o n cap : Nat) (v : Value) (e : Int) (hH : base ≤ H) (hB : base ≤ B) (hw : Laying w H B L o n cap) (hv : HasText w v F) (hF : F ≠ []) (hn : F.length ≤ n) (hc : F.length < cap) (hL : o + n ≤ L.length) :
    Calls Tryd.prog 42 #[v, .int .i64 e, .pointer (some ⟨B, 0, none⟩)] w fun e w' => e = .returned (.slice (some ⟨H, o, none⟩) F.length cap) ∧ Laying w' H B (splice L o F) (o + F.length) (n - F.length) (cap - F.length) ∧ Below base w w' := by
  obtain ⟨h1, h2, h3⟩ := hw
  obtain ⟨ao, c0, rfl, hnil, hcs⟩ := hv
  rw [List.length_map]
  obtain ⟨ad, rfl⟩ : ∃ ad, ao = some ad := by
    cases ao with
    | none => exact absurd (by simpa using (hnil rfl).1) hF
    | some ad => exact ⟨ad, rfl⟩
  have hcells := (hcs ad rfl).2
  rw [bytesL_map] at hcells
  replace hcells : ∀ (j : Nat) (u : Value), (cellsL F)[j]? = some u → w.cell? (ad.add j) = some u := hcells
  clear hcs hnil
  obtain ⟨f, hf⟩ : ∃ f, f = F.length := ⟨_, rfl⟩
  rw [← hf] at hn hc ⊢
  have cB := cell_of_one h2
  have fB := free_of_one h2
  have HC := Lib.hid (And.intro hcells (And.intro h1 (And.intro h2 (And.intro h3 (And.intro hf (And.intro hH (And.intro hB hL)))))))
  have q1 : (f : Int) ≤ (cap : Int) := by omega
  have q2 : (f : Int) ≤ (n : Int) := by omega
  have q3 : ¬ cap = f := by omega
  have q4 : ¬ (f : Int) < 0 := by omega
  clear hcells h1 h2 h3 hf hH hB hL hF
  go_enter Tryd.func42, Tryd.ntmps42
  go_wp2_with (first
    | (refine copy_in rfl (.tmp 8) (.tmp 9) 22 22 rfl 5 Tryd.underlying22 (by kernel_rfl) H o n cap ad f c0 rfl rfl (cellsL L) 5 HC.out.2.1 (cellsL F) f (by rw [cellsL_length]; exact HC.out.2.2.2.2.1.symm) (by have h : f ≤ n := (by omega); show f = min f n; omega) (fun j v hj => HC.out.1 j v hj) (by rw [cellsL_length, cellsL_length]; have h := HC.out.2.2.2.2.1; have h2 := HC.out.2.2.2.2.2.2.2; omega) (by intro v hv; obtain ⟨c, -, rfl⟩ := List.mem_map.1 hv; rfl) ?_; intro w1 hg1 hs1; rw [splice_row] at hg1; have hb1 := (hs1.block B (fun h => HC.out.2.2.2.1 h.symm)).trans HC.out.2.2.1; have cB1 := cell_of_one hb1; have fB1 := free_of_one hb1; have H1 := Lib.hid (And.intro hg1 (And.intro hs1 hb1)); clear hg1 hs1 hb1))
  go_ret
  have hne : H ≠ B := HC.out.2.2.2.1
  refine ⟨rfl, ⟨(heap_setCell_other _ _ _ _ hne).trans H1.out.1, one_setCell H1.out.2.2, hne⟩, (solo_under (Below.refl base w) H1.out.2.1 HC.out.2.2.2.2.2.1).setCell HC.out.2.2.2.2.2.2.1 _⟩
theorem splice_lay (A F : List UInt8) (a c c' : Nat) (hA : A.length = a) (hF : F.length + c' = c) : splice (A ++ List.replicate c 0) a F = (A ++ F) ++ List.replicate c' 0 := by
  rw [splice, List.take_left' hA, ← List.append_assoc, ← List.drop_drop, List.drop_left' hA, List.drop_replicate, show c - F.length = c' by omega]
theorem sum_laid (A E C Q : List UInt8) (lA : A.length = 148) (lE : E.length = 8) (lQ : Q.length = 7) : splice (A ++ (E ++ C)) 148 Q = (A ++ Q) ++ (E.drop 7 ++ C) ∧ splice (splice (A ++ (E ++ C)) 148 Q) 155 [32] = A ++ (Q ++ ([32] ++ C)) := by
  have e1 : splice (A ++ (E ++ C)) 148 Q = (A ++ Q) ++ (E.drop 7 ++ C) := by
    rw [splice, List.take_left' lA, ← List.drop_drop, List.drop_left' lA, lQ, List.drop_append_of_le_length (by omega), List.append_assoc]
  refine ⟨e1, ?_⟩
  have l2 : (A ++ Q).length = 155 := by rw [List.length_append, lA, lQ]
  have l3 : (E.drop 7).length = [(32 : UInt8)].length := by rw [List.length_drop, lE]; rfl
  rw [e1, splice, List.take_left' l2, ← List.drop_drop, List.drop_left' l2, List.drop_left' l3, List.append_assoc]
/-- A field laid ahead of bytes 0. -/
theorem field_next (w : World) (base H B : Nat) (A F : List UInt8) (a c f a' c' : Nat) (v : Value) (e : Int) (hH : base ≤ H) (hB : base ≤ B) (hw : Laying w H B (A ++ List.replicate c 0) a c c) (hA : A.length = a) (hv : HasText w v F) (hf : F.length = f) (h0 : 0 < f) (ha : a + f = a') (hc : f + c' = c) (hc0 : 0 < c') :
    Calls Tryd.prog 42 #[v, .int .i64 e, .pointer (some ⟨B, 0, none⟩)] w fun e w' => e = .returned (.slice (some ⟨H, a, none⟩) f c) ∧ (Laying w' H B ((A ++ F) ++ List.replicate c' 0) a' c' c' ∧ (A ++ F).length = a') ∧ Below base w w' := by
  have h := field_any w base H B (A ++ List.replicate c 0) F a c c v e hH hB hw hv (fun h => by rw [h] at hf; simp at hf; omega) (by omega) (by omega) (by rw [List.length_append, List.length_replicate, hA]; exact Nat.le_refl _)
  refine h.mono fun e w' => ?_
  rintro ⟨rfl, hl, hb⟩
  rw [splice_lay A F a c c' hA (by omega), hf, ha, show c - f = c' by omega] at hl
  exact ⟨by rw [hf], ⟨hl, by rw [List.length_append]; omega⟩, hb⟩
end Go.Proofs.YtbjekhhefepnlaaDoor
