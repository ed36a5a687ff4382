/-
Slices of texts in memory: what they hold, what is appended to them. No program is named here.
-/
import Derived.Test.YtfechljjkblkhaaDoorText
import Derived.Laws.AppendOwn
namespace Go.Proofs.YtfechljjkblkhaaDoor
open Go.RowKit
/-- Texts as the cells of a slice. -/
def textsL (ls : List (List UInt8)) : List Value := ls.map fun l => Value.string (str l)
theorem textsL_length (ls : List (List UInt8)) : (textsL ls).length = ls.length := by simp [textsL]
theorem textsL_append (x y : List (List UInt8)) : textsL (x ++ y) = textsL x ++ textsL y := by simp [textsL]
theorem textsL_one (ls : List (List UInt8)) : ∀ u ∈ textsL ls, u.oneCell' = true := fun u hu => by
  obtain ⟨l, _, rfl⟩ := List.mem_map.1 hu; rfl
/-- A slice value whose elements are these texts. -/
def HasTexts (w : World) (v : Value) (ls : List (List UInt8)) : Prop :=
  ∃ ao cap, v = .slice ao ls.length cap ∧ (ao = none → ls = [] ∧ cap = 0) ∧ ∀ ad, ao = some ad → ls.length ≤ cap ∧ ∀ j u, (textsL ls)[j]? = some u → w.cell? (ad.add j) = some u
theorem texts_nil (w : World) : HasTexts w (.slice none 0 0) [] := ⟨none, 0, rfl, fun _ => ⟨rfl, rfl⟩, fun _ h => by cases h⟩
theorem texts_of_own {w : World} {base : Nat} {e : TypeId} {v : Value} {ls : List (List UInt8)} (h : w.ownsRow base e 1 v ls.length (textsL ls)) : HasTexts w v ls := by
  rcases h.2 with ⟨rfl, h0⟩ | ⟨g, cap, cur, rfl, rest⟩
  · obtain rfl : ls = [] := List.eq_nil_of_length_eq_zero h0
    exact texts_nil w
  · exact ⟨some ⟨g, 0, none⟩, cap, rfl, (fun h => by cases h), fun ad had => ⟨rest.2.2.1, fun j u hu => by
      cases had; exact h.cells rfl j u hu⟩⟩
theorem texts_below {w w' : World} {v : Value} {ls : List (List UInt8)} (h : HasTexts w v ls) (hb : Below w.heap.size w w') : HasTexts w' v ls := by
  obtain ⟨ao, cap, rfl, hnil, hc⟩ := h
  refine ⟨ao, cap, rfl, hnil, fun ad had => ⟨(hc ad had).1, fun j u hu => ?_⟩⟩
  have h1 := (hc ad had).2 j u hu
  exact (World.cell?_of_block (hb.block (ad.add j).block (World.block_lt_of_cell? w _ h1))).trans h1
/-- A text of such a slice. -/
theorem texts_at {w : World} {v : Value} {ls : List (List UInt8)} (h : HasTexts w v ls) (n k : Nat) (hn : ls.length = n) (hk : k < n) (l : List UInt8) (hl : ls[k]? = some l) : ∃ ad cap, v = .slice (some ad) n cap ∧ w.cell? (ad.add k) = some (.string (str l)) := by
  obtain ⟨ao, cap, rfl, hnil, hcs⟩ := h
  subst hn
  cases ao with
  | none => obtain ⟨hl, _⟩ := hnil rfl; subst hl; simp at hk
  | some ad =>
    refine ⟨ad, cap, rfl, (hcs ad rfl).2 k _ ?_⟩
    simp only [textsL, List.getElem?_map, hl, Option.map]
theorem texts_shape {w : World} {v : Value} {ls : List (List UInt8)} (h : HasTexts w v ls) (n : Nat) (hn : ls.length = n) : ∃ ao cap, v = .slice ao n cap := by
  obtain ⟨ao, cap, rfl, -⟩ := h
  exact ⟨ao, cap, by rw [hn]⟩
/-- One text appended to a slice of texts of the call's own. -/
theorem append_text {P : Program} {w : World} {ops : Array Oper} {rest : List Oper} {o : Oper} {a : Act} {Q : Exit → Act → World → Prop} (hgd : o.guard = none) (s x : Operand) (t : TypeId)
    (ho : o.op = .call { callee := .builtin .append, args := #[s, x], argTypes := #[t, t] })
    (base : Nat) (e : TypeId) (i : TypeInfo) (ht : P.underlying t = some (.slice e)) (hi : P.info? e = some i) (hz : i.zero = some (.string ByteArray.empty)) (hsize : i.size = 1) (hby : i.bytes = 16)
    (v : Value) (ls : List (List UInt8)) (l : List UInt8) (hs : a.eval s = v) (hown : w.ownsRow base e 1 v ls.length (textsL ls)) (ad : Addr) (c : Nat) (hx : a.eval x = .slice (some ad) 1 c) (hc : w.cell? ad = some (.string (str l)))
    (hlen : ls.length + 1 ≤ 8796093022208) (hbase : base ≤ w.heap.size)
    (h : ∀ v' w', w'.ownsRow base e 1 v' (ls ++ [l]).length (textsL (ls ++ [l])) → w.grownBy w' v.ownBlock → wpList P ops Q rest (a.put o.dst v') w') : wpList P ops Q (o :: rest) a w := by
  have hadd : ad.add 0 = ad := by unfold Addr.add; split <;> simp_all
  refine wpList_append_own w hgd s x t ho base e i (.string ByteArray.empty) 1 16 ht hi hz hsize hby rfl (by decide) v ls.length (textsL ls) hs hown ad 1 c (textsL [l]) hx (by simp [textsL]) (fun j u hj => ?_) (textsL_one [l])
    (by unfold maxLen; omega) (by omega) hbase fun v' w' h1 h2 _ => h v' w' (by rw [textsL_append, List.length_append]; exact h1) h2
  match j, hj with
  | 0, hj =>
    have e : u = .string (str l) := by simpa [textsL] using hj.symm
    rw [hadd, e]; exact hc
end Go.Proofs.YtfechljjkblkhaaDoor
