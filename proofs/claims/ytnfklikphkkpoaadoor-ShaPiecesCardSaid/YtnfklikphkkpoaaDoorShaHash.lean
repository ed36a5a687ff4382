/-
A Hash in memory: one block with eight words, the 64 bytes that wait, and how many bytes were written; what a copy, a store of words and a store of the number make of it; and how the words behind whole blocks follow from bytes that are written more. Plain mathematics and memory; no program is named here.
-/
import Derived.Test.YtnfklikphkkpoaaDoorBytes
import Derived.Deep.MidRow
namespace Go.Proofs.YtnfklikphkkpoaaDoor
open Go.RowKit
/-- The cells of a Hash. -/
def stC (h p : Nat → BitVec 32) (n : Nat) : List Value := rowL .u32 8 h ++ (rowL .u8 64 p ++ [.int .i64 n])
theorem rowL_toArray (k : IntKind) (n : Nat) (f : Nat → BitVec 32) : (rowL k n f).toArray = row k n f := rfl
theorem rowL_get (k : IntKind) (n : Nat) (f : Nat → BitVec 32) (i : Nat) (h : i < n) : (rowL k n f)[i]? = some (.int k (u32 (f i))) := by simp [rowL, h]
theorem rowL_none (k : IntKind) (n : Nat) (f : Nat → BitVec 32) (i : Nat) (h : n ≤ i) : (rowL k n f)[i]? = none := by simp [rowL, h]
theorem stC_length (h p : Nat → BitVec 32) (n : Nat) : (stC h p n).length = 73 := by simp [stC, rowL_length]
theorem stC_word (h p : Nat → BitVec 32) (n i : Nat) (hi : i < 8) : (stC h p n)[i]? = some (.int .u32 (u32 (h i))) := by
  unfold stC; rw [List.getElem?_append_left (by rw [rowL_length]; exact hi), rowL_get _ _ _ _ hi]
theorem stC_byte (h p : Nat → BitVec 32) (n i : Nat) (hi : i < 64) : (stC h p n)[8 + i]? = some (.int .u8 (u32 (p i))) := by
  unfold stC
  rw [List.getElem?_append_right (by rw [rowL_length]; omega), rowL_length, List.getElem?_append_left (by rw [rowL_length]; omega), show 8 + i - 8 = i from by omega, rowL_get _ _ _ _ hi]
theorem stC_len (h p : Nat → BitVec 32) (n : Nat) : (stC h p n)[72]? = some (.int .i64 n) := by
  unfold stC
  rw [List.getElem?_append_right (by rw [rowL_length]; omega), rowL_length, List.getElem?_append_right (by rw [rowL_length]; omega), rowL_length]; rfl
theorem stC_one (h p : Nat → BitVec 32) (n : Nat) : ∀ v ∈ stC h p n, v.oneCell' = true := by
  intro v hv
  simp only [stC, List.mem_append, List.mem_singleton] at hv
  rcases hv with hv | hv | rfl
  · exact rowL_one _ _ _ v hv
  · exact rowL_one _ _ _ v hv
  · rfl
theorem splice_get {α : Type} (L : List α) (off : Nat) (cs : List α) (h : off + cs.length ≤ L.length) (i : Nat) : (splice L off cs)[i]? = if i < off then L[i]? else if i < off + cs.length then cs[i - off]? else L[i]? := by
  unfold splice
  have hl : (L.take off).length = off := by simp; omega
  by_cases h1 : i < off
  · rw [if_pos h1, List.getElem?_append_left (by omega), List.getElem?_take, if_pos h1]
  · rw [if_neg h1, List.getElem?_append_right (by omega), hl]
    by_cases h2 : i < off + cs.length
    · rw [if_pos h2, List.getElem?_append_left (by omega)]
    · rw [if_neg h2, List.getElem?_append_right (by omega), List.getElem?_drop]; congr 1; omega
theorem stC_ext (L : List Value) (h p : Nat → BitVec 32) (n : Nat) (hl : L.length = 73) (h0 : ∀ i, i < 8 → L[i]? = some (.int .u32 (u32 (h i)))) (h1 : ∀ i, i < 64 → L[8 + i]? = some (.int .u8 (u32 (p i)))) (h2 : L[72]? = some (.int .i64 n)) : L = stC h p n := by
  apply List.ext_getElem?
  intro i
  by_cases a : i < 8
  · rw [h0 i a, stC_word _ _ _ _ a]
  · by_cases b : i < 72
    · obtain ⟨j, rfl⟩ : ∃ j, i = 8 + j := ⟨i - 8, by omega⟩
      rw [h1 j (by omega), stC_byte _ _ _ _ (by omega)]
    · by_cases c : i = 72
      · subst c; rw [h2, stC_len]
      · rw [List.getElem?_eq_none (by omega), List.getElem?_eq_none (by rw [stC_length]; omega)]
/-- The waiting bytes with some laid over them. -/
def over (p : Nat → BitVec 32) (r : Nat) (cs : List (BitVec 32)) (i : Nat) : BitVec 32 := if r ≤ i ∧ i < r + cs.length then cs.getD (i - r) 0#32 else p i
theorem stC_copy (h p : Nat → BitVec 32) (n r : Nat) (cs : List (BitVec 32)) (hr : r + cs.length ≤ 64) : splice (stC h p n) (8 + r) (bytesL cs) = stC h (over p r cs) n := by
  have hb := bytesL_length cs
  have hl := stC_length h p n
  apply stC_ext
  · rw [length_splice _ _ _ (by omega), hl]
  · intro i hi; rw [splice_get _ _ _ (by omega), if_pos (by omega), stC_word _ _ _ _ hi]
  · intro i hi
    rw [splice_get _ _ _ (by omega)]
    unfold over
    by_cases a : r ≤ i
    · by_cases b : i < r + cs.length
      · rw [if_neg (by omega), if_pos (by omega), if_pos ⟨a, b⟩, show 8 + i - (8 + r) = i - r from by omega, bytesL_get _ _ (by omega)]
      · rw [if_neg (by omega), if_neg (by omega), if_neg (by omega), stC_byte _ _ _ _ hi]
    · rw [if_pos (by omega), if_neg (by omega), stC_byte _ _ _ _ hi]
  · rw [splice_get _ _ _ (by omega), if_neg (by omega), if_neg (by omega), stC_len]
theorem stC_words (h h' p : Nat → BitVec 32) (n : Nat) : splice (stC h p n) 0 (rowL .u32 8 h') = stC h' p n := by
  have hb := rowL_length .u32 8 h'
  have hl := stC_length h p n
  apply stC_ext
  · rw [length_splice _ _ _ (by omega), hl]
  · intro i hi; rw [splice_get _ _ _ (by omega), if_neg (by omega), if_pos (by omega), Nat.sub_zero, rowL_get _ _ _ _ hi]
  · intro i hi; rw [splice_get _ _ _ (by omega), if_neg (by omega), if_neg (by omega), stC_byte _ _ _ _ hi]
  · rw [splice_get _ _ _ (by omega), if_neg (by omega), if_neg (by omega), stC_len]
theorem stC_set (h p : Nat → BitVec 32) (n m : Nat) : (stC h p n).toArray.setIfInBounds 72 (.int .i64 m) = (stC h p m).toArray := by
  rw [List.setIfInBounds_toArray]
  rfl
theorem range_words {w : World} {g : Nat} {t : TypeId} {h p : Nat → BitVec 32} {n : Nat} (e : w.heap[g]? = some (.cells (stC h p n).toArray t (0, 0))) : w.rangeAt g 0 (rowL .u32 8 h) := by
  intro j v hv
  have hj : j < 8 := by have := (List.getElem?_eq_some_iff.1 hv).1; rwa [rowL_length] at this
  rw [Nat.zero_add, cell_of_row w g j _ _ _ e, List.getElem?_toArray, stC_word _ _ _ _ hj, ← hv, rowL_get _ _ _ _ hj]
theorem range_bytes {w : World} {g : Nat} {t : TypeId} {h p : Nat → BitVec 32} {n : Nat} (e : w.heap[g]? = some (.cells (stC h p n).toArray t (0, 0))) : w.rangeAt g 8 (rowL .u8 64 p) := by
  intro j v hv
  have hj : j < 64 := by have := (List.getElem?_eq_some_iff.1 hv).1; rwa [rowL_length] at this
  rw [cell_of_row w g _ _ _ _ e, List.getElem?_toArray, stC_byte _ _ _ _ hj, ← hv, rowL_get _ _ _ _ hj]
theorem cell_len {w : World} {g : Nat} {t : TypeId} {h p : Nat → BitVec 32} {n : Nat} (e : w.heap[g]? = some (.cells (stC h p n).toArray t (0, 0))) : w.cell? ⟨g, 72, none⟩ = some (.int .i64 n) := by
  rw [cell_of_row w g _ _ _ _ e, List.getElem?_toArray, stC_len]
/-- Only block g has changed. -/
structure Solo (g : Nat) (w w' : World) : Prop where
  os : w'.os = w.os
  tape : w'.tape = w.tape
  output : w'.output = w.output
  size : w'.heap.size = w.heap.size
  block : ∀ k, k ≠ g → w'.heap[k]? = w.heap[k]?
theorem solo_setRow (w : World) (g : Nat) (cs : Array Value) : Solo g w (w.setRow g cs) := ⟨rfl, rfl, rfl, by simp [World.setRow], fun k hk => setRow_other w g k _ hk⟩
theorem splice_eq {α : Type} (cur : List α) (off : Nat) (cells : List α) : cur.take off ++ cells ++ cur.drop (off + cells.length) = splice cur off cells := by simp [splice]
theorem run_store_in {P : Program} (w : World) (ty : TypeId) (g off : Nat) (cur cells : List Value) (t : TypeId) (hg : w.heap[g]? = some (.cells cur.toArray t (0, 0)))
    (hi : (P.info? ty).map (·.size) = some cells.length) (hfit : off + cells.length ≤ cur.length) (h1 : ∀ v ∈ cells, v.oneCell' = true) :
    (Instr.storeAt ty (.pointer (some ⟨g, off, none⟩)) (.agg cells.toArray)).run P w = .ok () (w.setRow g (splice cur off cells).toArray) := by
  have hst := run_storeCells_at (P := P) g off t cells 0 cur.toArray w hg (by simpa using hfit) h1
  simp only [Nat.add_zero, splice_eq] at hst
  cases hq : P.info? ty with
  | none => simp [hq] at hi
  | some i =>
    have hs : cells.length = i.size := by simp [hq] at hi; omega
    simp [Instr.storeAt, Instr.sureAddr, storeVar, sizeOf, typeInfo, hq, Value.cells, hs, hst]
/-- Some cells stored in the middle of a block that is known whole: one operation. -/
theorem wp_store_in {P : Program} {o : Oper} {a : Act} {w : World} {K : Act → World → Prop} {Q : Exit → Act → World → Prop} (ty : TypeId) (x y : Operand) (ho : o.op = .store ty x y) (hd : o.dst = none)
    (g off : Nat) (cur cells : List Value) (t : TypeId) (hg : w.heap[g]? = some (.cells cur.toArray t (0, 0))) (hx : a.eval x = .pointer (some ⟨g, off, none⟩)) (hy : a.eval y = .agg cells.toArray)
    (hi : (P.info? ty).map (·.size) = some cells.length) (hfit : off + cells.length ≤ cur.length) (h1 : ∀ v ∈ cells, v.oneCell' = true)
    (h : ∀ w', w'.heap[g]? = some (.cells (splice cur off cells).toArray t (0, 0)) → Solo g w w' → K a w') : o.wp P a w K Q := by
  have hst := run_store_in (P := P) w ty g off cur cells t hg hi hfit h1
  unfold Oper.wp execOp
  simp only [ho, hx, hy, Sem.run_bind, Sem.run_pure, Result.andThen_ok, hst]
  have h' := h _ (setRow_heap w g cur.toArray (splice cur off cells).toArray t _ hg) (solo_setRow w g _)
  simpa [Oper.upon, hd, Act.put] using h'
/-- Some cells stored in the middle of a block that is known whole. -/
theorem store_in {P : Program} {ops : Array Oper} {rest : List Oper} {o : Oper} {a : Act} {w : World} {Q : Exit → Act → World → Prop} (hgd : o.guard = none) (ty : TypeId) (x y : Operand) (ho : o.op = .store ty x y) (hd : o.dst = none)
    (g off : Nat) (cur cells : List Value) (t : TypeId) (hg : w.heap[g]? = some (.cells cur.toArray t (0, 0))) (hx : a.eval x = .pointer (some ⟨g, off, none⟩)) (hy : a.eval y = .agg cells.toArray)
    (hi : (P.info? ty).map (·.size) = some cells.length) (hfit : off + cells.length ≤ cur.length) (h1 : ∀ v ∈ cells, v.oneCell' = true)
    (h : ∀ w', w'.heap[g]? = some (.cells (splice cur off cells).toArray t (0, 0)) → Solo g w w' → wpList P ops Q rest a w') : wpList P ops Q (o :: rest) a w :=
  wpList_plain hgd fun _ hK => wp_store_in ty x y ho hd g off cur cells t hg hx hy hi hfit h1 fun w' e s => hK _ _ (h w' e s)
/-- An operation that yields in whatever world taken first, the slot that it writes said by its number. -/
theorem any_at {P : Program} {ops : Array Oper} {Q : Exit → Act → World → Prop} {md : Region.Mode} {i : Nat} {oi : Oper} {v : Value} {fuel : Nat} {listed : Array Bool} {ts : Array Value} {ds : List Deferred} {w : World} (d : Nat) (hi : ops[i]? = some oi) (hd : oi.dst = some d)
    (hs : Region.noSelect ops = true) (hf : Region.free md ops listed i = true) (hr : (Region.ready md ops listed).contains i = true)
    (hQ : ∀ c a w, Q (.panic c) (a.put oi.dst v) w → Q (.panic c) a w) (hw : Region.wanted oi (yielded ops ts) = true) (hy : ∀ w, (execOp (Act.eval { tmps := ts, defers := ds }) oi).run P w = .ok (.value v) w)
    (h : wpAny P md ops Q fuel (listed.setIfInBounds i true) { tmps := ts.setIfInBounds d v, defers := ds } w) : wpAny P md ops Q (fuel + 1) listed { tmps := ts, defers := ds } w :=
  wpAny_take hi hs hf hr hQ (Or.inl ⟨hw, hy⟩) (by rw [hd]; exact h)
/-- Cells loaded out of the middle of a block, the slot said by its number. -/
theorem load_at {P : Program} {ops : Array Oper} {o : Oper} {ts : Array Value} {ds : List Deferred} {w : World} {K : Act → World → Prop} {Q : Exit → Act → World → Prop} {E : Prop} (d : Nat) (hd : o.dst = some d) (hw : Region.wanted o (yielded ops ts) = true) (ty : TypeId) (x : Operand) (ho : o.op = .load ty x)
    (b off : Nat) (hx : Act.eval { tmps := ts, defers := ds } x = .pointer (some ⟨b, off, none⟩)) (cs : List Value) (de : TypeDesc) (hc : w.rangeAt b off cs)
    (hu : P.underlying ty = some de) (hr : de.isRow = true) (hi : (P.info? ty).map (·.size) = some cs.length)
    (h : K { tmps := ts.setIfInBounds d (.agg cs.toArray), defers := ds } w) : if Region.wanted o (yielded ops ts) = true then Oper.wp P o { tmps := ts, defers := ds } w K Q else E := by
  rw [if_pos hw]
  exact wp_load_mid ty x ho b off hx cs de hc hu hr hi (by rw [hd]; exact h)
/-- Some cells copied into the middle of a block that is known whole. -/
theorem copy_in {P : Program} {w : World} {ops : Array Oper} {rest : List Oper} {o : Oper} {a : Act} {Q : Exit → Act → World → Prop} (hgd : o.guard = none) (d s : Operand) (dT sT : TypeId)
    (ho : o.op = .call { callee := .builtin .copy, args := #[d, s], argTypes := #[dT, sT] }) (elem : TypeId) (hu : P.underlying dT = some (.slice elem)) (hsz : (P.info? elem).map (·.size) = some 1)
    (g off dLen dCap : Nat) (ad : Addr) (sLen sCap : Nat) (hd : a.eval d = .slice (some ⟨g, off, none⟩) dLen dCap) (hs : a.eval s = .slice (some ad) sLen sCap)
    (cur : List Value) (t : TypeId) (hg : w.heap[g]? = some (.cells cur.toArray t (0, 0))) (cs : List Value) (n : Nat) (hl : cs.length = n) (hn : n = Nat.min sLen dLen)
    (hsrc : ∀ j v, cs[j]? = some v → w.cell? (ad.add j) = some v)
    (hfit : off + cs.length ≤ cur.length) (h1 : ∀ v ∈ cs, v.oneCell' = true)
    (h : ∀ w', w'.heap[g]? = some (.cells (splice cur off cs).toArray t (0, 0)) → Solo g w w' → wpList P ops Q rest (a.put o.dst (goInt n)) w') :
    wpList P ops Q (o :: rest) a w := by
  subst hl
  refine wpList_copy_own hgd d s dT sT ho elem hu hsz g off dLen dCap ad sLen sCap hd hs cur.toArray t hg cs hn hsrc (by simpa using hfit) h1 ?_
  exact h (w.setRow g (splice cur off cs).toArray) (setRow_heap w g cur.toArray _ t _ hg) (solo_setRow w g _)
/-- A number stored in a cell of a block that is known whole. -/
theorem store_cell {P : Program} {ops : Array Oper} {rest : List Oper} {o : Oper} {a : Act} {w : World} {Q : Exit → Act → World → Prop} (hgd : o.guard = none) (ty : TypeId) (x y : Operand) (ho : o.op = .store ty x y) (hd : o.dst = none)
    (k : IntKind) (g off : Nat) (cur : Array Value) (z : Int) (t : TypeId) (hg : w.heap[g]? = some (.cells cur t (0, 0))) (hx : a.eval x = .pointer (some ⟨g, off, none⟩)) (hy : a.eval y = .int k z) (hfit : off < cur.size)
    (hi : (P.info? ty).map (·.size) = some 1)
    (h : ∀ w', w'.heap[g]? = some (.cells (cur.setIfInBounds off (.int k z)) t (0, 0)) → Solo g w w' → wpList P ops Q rest a w') : wpList P ops Q (o :: rest) a w := by
  refine wpList_plain hgd fun K hK => ?_
  have hcell : w.cell? ⟨g, off, none⟩ = some cur[off] := by simp [World.cell?, hg, hfit]
  have hfro : w.frozen? ⟨g, off, none⟩ = false := by simp [World.frozen?, hg]
  have hadd : (⟨g, off, none⟩ : Addr).add 0 = ⟨g, off, none⟩ := by unfold Addr.add; split <;> simp_all
  have hst : (storeVar ty ⟨g, off, none⟩ (.int k z)).run P w = .ok () (w.setRow g (cur.setIfInBounds off (.int k z))) := by
    cases hq : P.info? ty with
    | none => simp [hq] at hi
    | some i =>
      have hs : i.size = 1 := by simpa [hq] using hi
      simp [storeVar, sizeOf, typeInfo, hq, Value.cells, hs, storeCells, hadd, run_store P w _ _ _ (show (Value.int k z).oneCell' = true from rfl), hcell, hfro, setCell_eq_setRow w g off cur t (0, 0) _ hg]
  unfold Oper.wp execOp
  simp only [ho, hx, hy, Instr.storeAt, Instr.sureAddr, Sem.run_bind, Sem.run_pure, Result.andThen_ok, hst]
  refine hK _ _ ?_
  rw [hd]
  exact h _ (setRow_heap w g cur _ t _ hg) (solo_setRow w g _)
/-- A block made of a type's zero value, whatever its size. -/
theorem alloc_as {P : Program} {ops : Array Oper} {rest : List Oper} {o : Oper} {a : Act} {w : World} {Q : Exit → Act → World → Prop} (hgd : o.guard = none) (t : TypeId) (ho : o.op = .alloc t) (cs : Array Value)
    (hz : (P.info? t).map (fun i => i.zero) = some (some (.agg cs))) (h : wpList P ops Q rest (a.put o.dst (.pointer (some ⟨w.heap.size, 0, none⟩))) (w.alloc (.cells cs t (0, 0)))) : wpList P ops Q (o :: rest) a w := by
  refine wpList_plain hgd fun K hK => ?_
  cases hq : P.info? t with
  | none => simp [hq] at hz
  | some i =>
    have hi : i.zero = some (.agg cs) := by simpa [hq] using hz
    unfold Oper.wp execOp
    simp only [ho]
    simp [Instr.alloc, zeroValue, typeInfo, hq, hi, newVar, newRow, Value.cells, Oper.upon]
    exact hK _ _ h
theorem sched_congr (f g : Nat → BitVec 32) (e : ∀ i, i < 64 → f i = g i) (t : Nat) : sched f t = sched g t := by
  induction t using Nat.strongRecOn with
  | _ t ih =>
    by_cases h : t < 16
    · rw [sched_lo _ _ h, sched_lo _ _ h, e _ (by omega), e _ (by omega), e _ (by omega), e _ (by omega)]
    · rw [sched_hi f t (by omega), sched_hi g t (by omega), ih (t - 2) (by omega), ih (t - 7) (by omega), ih (t - 15) (by omega), ih (t - 16) (by omega)]
theorem compressed_congr (h f g : Nat → BitVec 32) (e : ∀ i, i < 64 → f i = g i) : compressed h f = compressed h g := by
  funext i
  rw [← compressed_def, ← compressed_def, show sched f = sched g from funext (sched_congr f g e)]
/-- The words behind whole blocks hang on these blocks' bytes alone. -/
theorem wordsF_congr (as bs : List (BitVec 32)) (k : Nat) (h : ∀ i, i < 64 * k → as.getD i 0#32 = bs.getD i 0#32) : wordsF as k = wordsF bs k := by
  induction k with
  | zero => rw [wordsF_zero, wordsF_zero]
  | succ k ih => rw [wordsF_succ, wordsF_succ, ih fun i hi => h i (by omega)]; exact compressed_congr _ _ _ fun i hi => h _ (by omega)
theorem getD_left (as xs : List (BitVec 32)) (i : Nat) (h : i < as.length) : (as ++ xs).getD i 0#32 = as.getD i 0#32 := by
  simp [List.getElem?_append_left h]
theorem getD_right (as xs : List (BitVec 32)) (i : Nat) (h : as.length ≤ i) : (as ++ xs).getD i 0#32 = xs.getD (i - as.length) 0#32 := by
  simp [List.getElem?_append_right h]
/-- Bytes more leave the words behind the whole blocks. -/
theorem words_more (as xs : List (BitVec 32)) : wordsF (as ++ xs) (as.length / 64) = wordsF as (as.length / 64) :=
  wordsF_congr _ _ _ fun i hi => getD_left _ _ _ (by omega)
/-- Bytes more, laid behind those that wait, are the block's. -/
theorem over_more (as xs : List (BitVec 32)) (p : Nat → BitVec 32) (hp : ∀ i, i < as.length % 64 → p i = blockF as (as.length / 64) i) (i : Nat) (hi : i < as.length % 64 + xs.length) :
    over p (as.length % 64) xs i = blockF (as ++ xs) (as.length / 64) i := by
  unfold over blockF
  by_cases h : as.length % 64 ≤ i
  · rw [if_pos ⟨h, hi⟩, getD_right _ _ _ (by omega)]; congr 1; omega
  · rw [if_neg (by omega), getD_left _ _ _ (by omega), hp _ (by omega)]; rfl
/-- What a Hash holds, where these bytes were written. -/
def Holds (T : TypeId) (w : World) (g : Nat) (bs : List (BitVec 32)) : Prop :=
  ∃ p, w.heap[g]? = some (.cells (stC (wordsF bs (bs.length / 64)) p bs.length).toArray T (0, 0)) ∧ ∀ i, i < bs.length % 64 → p i = blockF bs (bs.length / 64) i
/-- The block is full: its words. -/
theorem holds_full {T : TypeId} {w : World} {g : Nat} {as xs : List (BitVec 32)} {p q : Nat → BitVec 32} (hp : ∀ i, i < as.length % 64 → p i = blockF as (as.length / 64) i) (hl : as.length % 64 + xs.length = 64)
    (h : w.heap[g]? = some (.cells (stC (compressed (wordsF as (as.length / 64)) (over p (as.length % 64) xs)) q (as ++ xs).length).toArray T (0, 0))) : Holds T w g (as ++ xs) := by
  have e : (as ++ xs).length / 64 = as.length / 64 + 1 := by rw [List.length_append]; omega
  have e0 : (as ++ xs).length % 64 = 0 := by rw [List.length_append]; omega
  refine ⟨q, ?_, fun i hi => by omega⟩
  rw [h, e, wordsF_succ, words_more, compressed_congr _ _ _ fun i hi => over_more as xs p hp i (by omega)]
/-- The block is not full yet. -/
theorem holds_part {T : TypeId} {w : World} {g : Nat} {as xs : List (BitVec 32)} {p : Nat → BitVec 32} (hp : ∀ i, i < as.length % 64 → p i = blockF as (as.length / 64) i) (hl : as.length % 64 + xs.length < 64)
    (h : w.heap[g]? = some (.cells (stC (wordsF as (as.length / 64)) (over p (as.length % 64) xs) (as ++ xs).length).toArray T (0, 0))) : Holds T w g (as ++ xs) := by
  have e : (as ++ xs).length / 64 = as.length / 64 := by rw [List.length_append]; omega
  have e0 : (as ++ xs).length % 64 = as.length % 64 + xs.length := by rw [List.length_append]; omega
  refine ⟨over p (as.length % 64) xs, ?_, fun i hi => ?_⟩
  · rw [h, e, words_more]
  · rw [e, over_more as xs p hp i (by omega)]
end Go.Proofs.YtnfklikphkkpoaaDoor
