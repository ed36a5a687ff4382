/-
Slices of bytes in memory: what they hold, how they are appended, and what of it stays. No program is named here.
-/
import Derived.Test.YtfechljjkblkhaaDoorSha
import Derived.Test.YtfechljjkblkhaaDoorMem
import Derived.Laws.AppendOwnNone
import Derived.Test.YtfechljjkblkhaaDoorHeld
namespace Go.Proofs.YtfechljjkblkhaaDoor
open Go.RowKit
/-- A slice value whose elements are these bytes. -/
def HasBytes (w : World) (v : Value) (bs : List (BitVec 32)) : Prop :=
  ∃ ao cap, v = .slice ao bs.length cap ∧ (ao = none → bs = [] ∧ cap = 0) ∧ ∀ ad, ao = some ad → bs.length ≤ cap ∧ ∀ j u, (bytesL bs)[j]? = some u → w.cell? (ad.add j) = some u
/-- What owns bytes has them. -/
theorem has_of_own {w : World} {base : Nat} {e : TypeId} {v : Value} {bs : List (BitVec 32)} (h : w.ownsRow base e 1 v bs.length (bytesL bs)) : HasBytes w v bs := by
  rcases h.2 with ⟨rfl, h0⟩ | ⟨g, cap, cur, rfl, rest⟩
  · obtain rfl : bs = [] := List.eq_nil_of_length_eq_zero h0
    exact ⟨none, 0, rfl, fun _ => ⟨rfl, rfl⟩, fun _ h => by cases h⟩
  · exact ⟨some ⟨g, 0, none⟩, cap, rfl, (fun h => by cases h), fun ad had => ⟨rest.2.2.1, fun j u hu => by
      cases had; exact h.cells rfl j u hu⟩⟩
theorem own_block {w : World} {base : Nat} {e : TypeId} {size : Nat} {v : Value} {n : Nat} {xs : List Value} (h : w.ownsRow base e size v n xs) (hv : v ≠ .slice none 0 0) :
    ∃ g cap cur, v = .slice (some ⟨g, 0, none⟩) n cap ∧ base ≤ g ∧ w.heap[g]? = some (.cells cur e (0, 0)) ∧ n ≤ cap ∧ cap ≤ maxLen ∧ cur.size = cap * size ∧ cur.toList.take (n * size) = xs := by
  rcases h.2 with ⟨hn, _⟩ | ⟨g, cap, cur, rest⟩
  · exact absurd hn hv
  · exact ⟨g, cap, cur, rest⟩
/-- What is a call's own is a slice of that length. -/
theorem own_slice {w : World} {base : Nat} {e : TypeId} {size : Nat} {v : Value} {n : Nat} {xs : List Value} (h : w.ownsRow base e size v n xs) : ∃ ao cap, v = .slice ao n cap := by
  rcases h.2 with ⟨rfl, rfl⟩ | ⟨b, cap, cur, rfl, -⟩
  · exact ⟨_, _, rfl⟩
  · exact ⟨_, _, rfl⟩
/-- What a call has made stays its own while only new memory is made. -/
theorem own_below {w w' : World} {base : Nat} {e : TypeId} {size : Nat} {v : Value} {n : Nat} {xs : List Value} (h : w.ownsRow base e size v n xs) (hb : Below w.heap.size w w') : w'.ownsRow base e size v n xs := by
  refine ⟨h.1, ?_⟩
  rcases h.2 with hn | ⟨g, cap, cur, rfl, hbase, hg, rest⟩
  · exact .inl hn
  · exact .inr ⟨g, cap, cur, rfl, hbase, (hb.block g (Array.getElem?_eq_some_iff.1 hg).1).trans hg, rest⟩
/-- A byte of what a row of the call's own begins with. -/
theorem own_cell {w : World} {e : TypeId} {g n : Nat} {cur : Array Value} {bs : List (BitVec 32)} (hg : w.heap[g]? = some (.cells cur e (0, 0))) (ht : cur.toList.take (n * 1) = bytesL bs) (hn : n = bs.length) (j : Nat) (hj : j < n) :
    w.cell? ⟨g, j, none⟩ = some (.int .u8 (u32 (bs.getD j 0#32))) := by
  rw [cell_of_row w g j _ _ _ hg, ← bytesL_get bs j (by omega), ← ht, List.getElem?_take, if_pos (by omega)]
  simp
theorem has_below {w w' : World} {v : Value} {bs : List (BitVec 32)} (h : HasBytes w v bs) (hb : Below w.heap.size w w') : HasBytes w' v bs := by
  obtain ⟨ao, cap, rfl, hnil, hc⟩ := h
  refine ⟨ao, cap, rfl, hnil, fun ad had => ⟨(hc ad had).1, fun j u hu => ?_⟩⟩
  have h1 := (hc ad had).2 j u hu
  exact (World.cell?_of_block (hb.block (ad.add j).block (World.block_lt_of_cell? w _ h1))).trans h1
/-- A slice of bytes just made. -/
theorem has_new (w : World) (t : TypeId) (fr : Nat × Nat) (bs : List (BitVec 32)) : HasBytes (w.alloc (.cells (bytesL bs).toArray t fr)) (.slice (some ⟨w.heap.size, 0, none⟩) bs.length bs.length) bs := by
  refine ⟨some ⟨w.heap.size, 0, none⟩, bs.length, rfl, (fun h => by cases h), fun ad had => ⟨Nat.le_refl _, fun j u hu => ?_⟩⟩
  cases had
  rw [Addr.add_lit, Nat.zero_add, cell_of_row _ _ j _ _ _ (heap_last w _)]
  simpa using hu
theorem append_has {P : Program} {w : World} {ops : Array Oper} {rest : List Oper} {o : Oper} {a : Act} {Q : Exit → Act → World → Prop} (hgd : o.guard = none) (s x : Operand) (t : TypeId)
    (ho : o.op = .call { callee := .builtin .append, args := #[s, x], argTypes := #[t, t] })
    (base : Nat) (e : TypeId) (i : TypeInfo) (ht : P.underlying t = some (.slice e)) (hi : P.info? e = some i) (hz : i.zero = some (.int .u8 0)) (hsize : i.size = 1) (hby : i.bytes = 1)
    (v : Value) (as bs : List (BitVec 32)) (hs : a.eval s = v) (hown : w.ownsRow base e 1 v as.length (bytesL as)) (vx : Value) (hx : a.eval x = vx) (hbs : HasBytes w vx bs)
    (hlen : as.length + bs.length ≤ 140737488355328) (hbase : base ≤ w.heap.size)
    (h : ∀ v' w', w'.ownsRow base e 1 v' (as ++ bs).length (bytesL (as ++ bs)) → w.grownBy w' v.ownBlock → (v ≠ .slice none 0 0 → v' ≠ .slice none 0 0) → wpList P ops Q rest (a.put o.dst v') w') : wpList P ops Q (o :: rest) a w := by
  obtain ⟨ao, cap, rfl, hnil, hcells⟩ := hbs
  rw [List.length_append, bytesL_append] at h
  cases ao with
  | none =>
    obtain ⟨rfl, rfl⟩ := hnil rfl
    exact wpList_append_own_none hgd s x t ho base e i 1 ht hi v as.length (bytesL as) hs hown hx
      (h v w (by simpa [bytesL] using hown) ⟨rfl, rfl, rfl, Nat.le_refl _, fun _ _ _ => rfl⟩ id)
  | some ad =>
    exact wpList_append_own w hgd s x t ho base e i (.int .u8 0) 1 1 ht hi hz hsize hby rfl (by decide) v as.length (bytesL as) hs hown ad bs.length cap (bytesL bs) hx (by rw [bytesL_length]; omega) (hcells ad rfl).2 (bytesL_one bs)
      (by unfold maxLen; omega) (by omega) hbase fun v' w' h1 h2 h3 => h v' w' h1 h2 fun hv hv' => hv (h3.1 hv').1
/-- The same, for an operation of a region that draws its order. -/
theorem append_has_wp {P : Program} {w : World} {ops : Array Oper} {o : Oper} {ts : Array Value} {ds : List Deferred} {K : Act → World → Prop} {Q : Exit → Act → World → Prop} {C : Prop} (d : Nat) (hd : o.dst = some d) (hw : Region.wanted o (yielded ops ts) = true) (s x : Operand) (t : TypeId)
    (ho : o.op = .call { callee := .builtin .append, args := #[s, x], argTypes := #[t, t] })
    (base : Nat) (e : TypeId) (i : TypeInfo) (ht : P.underlying t = some (.slice e)) (hi : P.info? e = some i) (hz : i.zero = some (.int .u8 0)) (hsize : i.size = 1) (hby : i.bytes = 1)
    (v : Value) (as bs : List (BitVec 32)) (hs : Act.eval { tmps := ts, defers := ds } s = v) (hown : w.ownsRow base e 1 v as.length (bytesL as)) (vx : Value) (hx : Act.eval { tmps := ts, defers := ds } x = vx) (hbs : HasBytes w vx bs)
    (hlen : as.length + bs.length ≤ 140737488355328) (hbase : base ≤ w.heap.size)
    (h : ∀ v' w', w'.ownsRow base e 1 v' (as ++ bs).length (bytesL (as ++ bs)) → w.grownBy w' v.ownBlock → (v ≠ .slice none 0 0 → v' ≠ .slice none 0 0) → K { tmps := ts.setIfInBounds d v', defers := ds } w') :
    if Region.wanted o (yielded ops ts) = true then Oper.wp P o { tmps := ts, defers := ds } w K Q else C := by
  rw [if_pos hw]
  have hput : ∀ v', ({ tmps := ts, defers := ds } : Act).put o.dst v' = { tmps := ts.setIfInBounds d v', defers := ds } := fun v' => by rw [hd]; rfl
  obtain ⟨ao, cap, rfl, hnil, hcells⟩ := hbs
  rw [List.length_append, bytesL_append] at h
  cases ao with
  | none =>
    obtain ⟨rfl, rfl⟩ := hnil rfl
    have hrun := run_append_owned_none (P := P) (w := w) base t o.type e i 1 ht hi v as.length (bytesL as) hown
    have hk := h v w (by simpa [bytesL] using hown) ⟨rfl, rfl, rfl, Nat.le_refl _, fun _ _ _ => rfl⟩ id
    rw [← hput] at hk
    have hx' : Act.eval { tmps := ts, defers := ds } x = .slice none 0 0 := hx
    unfold Oper.wp
    simp [execOp, ho, resolve, invoke, builtin, hs, hx', hrun, Result.andThen]
    exact hk
  | some ad =>
    exact wp_append_own w s x t ho base e i (.int .u8 0) 1 1 ht hi hz hsize hby rfl (by decide) v as.length (bytesL as) hs hown ad bs.length cap (bytesL bs) hx (by rw [bytesL_length]; omega) (hcells ad rfl).2 (bytesL_one bs)
      (by unfold maxLen; omega) (by omega) hbase fun v' w' h1 h2 h3 => by
        rw [hput]; exact h v' w' h1 h2 fun hv hv' => hv (h3.1 hv').1
end Go.Proofs.YtfechljjkblkhaaDoor
