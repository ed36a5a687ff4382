/-
Texts that all claims of this seat share, part 1: Heads, Dots, Ref06, Ref06Copy, Ref09, Ref09Parse, Mark, Ref10.
-/
import Derived.Laws.AppendOwn
import Derived.Test.YtcdjkjadbhejpaaGreatDoorProg
import Derived.WalkKit
import Derived.Lib.Hide
import Derived.WalkLawsBesides
import Derived.Laws.DeepStrings4
import Derived.BigQuiet
import Derived.Deep.QuietTactic
import Derived.Deep.DeepCutAuto
import Derived.Laws.IdiomStrings
import Derived.StillTailTactics
import Derived.Test.YtcdjkjadbhejpaaGreatDoorPk0
namespace Go.Proofs.YtcdjkjadbhejpaaGreatDoor
open Go.RowKit
def knE (e f : Ev) : Bool := hasV e.deps f.r f.q
def dotE (e f : Ev) : Bool := decide (e.r = f.r) && decide (e.q = f.q)
/-- f stands in e's way. -/
def hitE (e f : Ev) : Bool := f.path == e.path && (dotE f e || knE f e)
/-- f goes out when e comes. -/
def outE (e f : Ev) : Bool := f.path == e.path && knE e f
def aboveE (e f : Ev) : Bool := decide (0 < cmpE f e)
def insE : List Ev → Ev → List Ev
  | [], e => [e]
  | f :: l, e => if aboveE e f then e :: f :: l else f :: insE l e
def addE (h : List Ev) (e : Ev) : List Ev := if h.any (hitE e) then h else insE (h.filter fun f => !outE e f) e
def joinE (h k : List Ev) : List Ev := k.foldl addE h
theorem mem_flt {α : Type} {p : α → Bool} {l : List α} {x : α} (h : x ∈ l.filter p) : x ∈ l := (List.mem_filter.1 h).1
theorem dotE_iff (e f : Ev) : dotE e f = true ↔ e.r = f.r ∧ e.q = f.q := by simp [dotE]
theorem hitE_iff (e f : Ev) : hitE e f = true ↔ f.path = e.path ∧ (dotE f e = true ∨ knE f e = true) := by simp [hitE]
theorem outE_iff (e f : Ev) : outE e f = true ↔ f.path = e.path ∧ knE e f = true := by simp [outE]
theorem insE_cons (f : Ev) (l : List Ev) (e : Ev) : insE (f :: l) e = if aboveE e f then e :: f :: l else f :: insE l e := rfl
theorem insE_nil (e : Ev) : insE [] e = [e] := rfl
theorem insE_mem (l : List Ev) (e x : Ev) : x ∈ insE l e ↔ x = e ∨ x ∈ l := by
  induction l with
  | nil => simp [insE]
  | cons f l ih =>
    unfold insE
    split
    · simp
    · simp only [List.mem_cons, ih]
      constructor
      · rintro (h | h | h)
        · exact .inr (.inl h)
        · exact .inl h
        · exact .inr (.inr h)
      · rintro (h | h | h)
        · exact .inr (.inl h)
        · exact .inl h
        · exact .inr (.inr h)
theorem insE_len (l : List Ev) (e : Ev) : (insE l e).length = l.length + 1 := by
  induction l with
  | nil => rfl
  | cons f l ih => unfold insE; split <;> simp [ih]
/-- Where it is put. -/
def placeE (l : List Ev) (e : Ev) : Nat := l.findIdx (aboveE e)
theorem insE_place (l : List Ev) (e : Ev) : insE l e = l.take (placeE l e) ++ e :: l.drop (placeE l e) := by
  unfold placeE
  induction l with
  | nil => rfl
  | cons f l ih =>
    unfold insE
    rw [List.findIdx_cons]
    cases h : aboveE e f with
    | true => simp
    | false => simp [ih]
def Rises (l : List Ev) : Prop := l.Pairwise fun e f => cmpE e f < 0
theorem insE_rises {l : List Ev} {e : Ev} (h : Rises l) (hd : ∀ f ∈ l, cmpE f e ≠ 0) : Rises (insE l e) := by
  induction l with
  | nil => exact List.pairwise_singleton _ _
  | cons f l ih =>
    obtain ⟨h1, h2⟩ := List.pairwise_cons.1 h
    have hz := hd f (by simp)
    unfold insE
    split
    · rename_i ha
      have ha' : 0 < cmpE f e := by simpa [aboveE] using ha
      have hn := cmpE_neg f e
      refine List.pairwise_cons.2 ⟨fun g hg => ?_, h⟩
      rcases List.mem_cons.1 hg with rfl | hg
      · omega
      · exact (cmpE_trans e f g).2 (by omega) (h1 g hg)
    · rename_i ha
      have ha' : ¬ 0 < cmpE f e := by simpa [aboveE] using ha
      refine List.pairwise_cons.2 ⟨fun g hg => ?_, ih h2 (fun g hg => hd g (by simp [hg]))⟩
      rcases (insE_mem l e g).1 hg with rfl | hg
      · omega
      · exact h1 g hg
theorem addE_hit {h : List Ev} {e : Ev} (hh : h.any (hitE e) = true) : addE h e = h := by rw [addE, if_pos hh]
theorem addE_no {h : List Ev} {e : Ev} (hh : h.any (hitE e) = false) : addE h e = insE (h.filter fun f => !outE e f) e := by rw [addE, if_neg (by rw [hh]; simp)]
theorem addE_sub {h : List Ev} {e x : Ev} (hx : x ∈ addE h e) : x = e ∨ x ∈ h := by
  cases hh : h.any (hitE e) with
  | true => rw [addE_hit hh] at hx; exact .inr hx
  | false =>
    rw [addE_no hh] at hx
    rcases (insE_mem _ _ _).1 hx with h1 | h1
    · exact .inl h1
    · exact .inr (mem_flt h1)
theorem joinE_snoc (h k : List Ev) (e : Ev) : joinE h (k ++ [e]) = addE (joinE h k) e := by simp [joinE]
theorem addE_len (h : List Ev) (e : Ev) : (addE h e).length ≤ h.length + 1 := by
  cases hh : h.any (hitE e) with
  | true => rw [addE_hit hh]; omega
  | false => rw [addE_no hh, insE_len]; have := List.length_filter_le (fun f => !outE e f) h; omega
/-- What is heads. -/
def Heads (h : List Ev) : Prop := (∀ e ∈ h, mayE e = true) ∧ h.Pairwise fun e f => cmpE e f < 0 ∧ dotE e f = false ∧ (e.path = f.path → knE e f = false ∧ knE f e = false)
noncomputable def mayHs (h : List Ev) : Bool := @decide (Heads h) (Classical.propDecidable _)
theorem mayHs_iff (h : List Ev) : mayHs h = true ↔ Heads h := by unfold mayHs; exact @decide_eq_true_iff (Heads h) (Classical.propDecidable _)
theorem mayHs_not {h : List Ev} (hn : ¬ Heads h) : mayHs h = false := by
  cases hm : mayHs h with
  | false => rfl
  | true => exact absurd ((mayHs_iff h).1 hm) hn
/-- e may stand next behind these. -/
def Follows (a : List Ev) (e : Ev) : Prop := ∀ f ∈ a, cmpE f e < 0 ∧ (f.path = e.path → knE f e = false ∧ knE e f = false)
theorem heads_nil : Heads [] := ⟨fun _ h => (by cases h), List.Pairwise.nil⟩
theorem heads_snoc (h : List Ev) (e : Ev) : Heads (h ++ [e]) ↔ Heads h ∧ (∀ f ∈ h, dotE f e = false) ∧ mayE e = true ∧ Follows h e := by
  unfold Heads Follows
  rw [List.pairwise_append]
  constructor
  · rintro ⟨h1, h2, -, h3⟩
    exact ⟨⟨fun x hx => h1 x (by simp [hx]), h2⟩, fun f hf => (h3 f hf e (by simp)).2.1, h1 e (by simp), fun f hf => ⟨(h3 f hf e (by simp)).1, (h3 f hf e (by simp)).2.2⟩⟩
  · rintro ⟨⟨h1, h2⟩, h3, h4, h5⟩
    refine ⟨fun x hx => ?_, h2, List.pairwise_singleton _ _, fun a ha b hb => ?_⟩
    · rcases List.mem_append.1 hx with hx | hx
      · exact h1 x hx
      · rw [List.mem_singleton.1 hx]; exact h4
    · rw [List.mem_singleton.1 hb]; exact ⟨(h5 a ha).1, h3 a ha, (h5 a ha).2⟩
theorem heads_take {h : List Ev} (H : Heads h) (n : Nat) : Heads (h.take n) := ⟨fun e he => H.1 e (List.mem_of_mem_take he), H.2.sublist (List.take_sublist _ _)⟩
theorem heads_rises {h : List Ev} (H : Heads h) : Rises h := H.2.imp fun h => h.1
/-- Of what rises those of e's path stand last, if e may stand behind the last one. -/
theorem rises_path {a : List Ev} {e f g : Ev} (_h : Rises a) (hg : cmpE f g < 0) (hp : cmpE g e < 0) (hf : f.path = e.path) : g.path = e.path := by
  rcases cmpB_cases f.path g.path with ⟨-, h1⟩ | ⟨h1, h2, -⟩ | ⟨h1, -, -⟩
  · rw [← h1, hf]
  · rcases cmpB_cases g.path e.path with ⟨-, h3⟩ | ⟨-, h3, -⟩ | ⟨h3, -, -⟩
    · exact h3
    · have := bl_trans _ _ _ h2 h3; rw [hf, bytesLess_irrefl] at this; cases this
    · unfold cmpE at hp; rw [if_neg (by omega), h3] at hp; omega
  · unfold cmpE at hg; rw [if_neg (by omega), h1] at hg; omega
/-! ### groups by path -/
def leP (a b : List UInt8) : Prop := Op.bytesLess b a = false
theorem leP_trans {a b c : List UInt8} (h1 : leP a b) (h2 : leP b c) : leP a c := by
  unfold leP at *
  cases h : Op.bytesLess c a with
  | false => rfl
  | true =>
    rcases cmpB_cases a b with ⟨-, rfl⟩ | ⟨-, h3, -⟩ | ⟨-, h3, -⟩
    · rw [h] at h2; cases h2
    · have := bl_trans _ _ _ h h3; rw [h2] at this; cases this
    · rw [h1] at h3; cases h3
def PathRises (l : List Ev) : Prop := l.Pairwise fun e f => leP e.path f.path
theorem cmpE_leP {e f : Ev} (h : cmpE e f ≤ 0) : leP e.path f.path := by
  unfold leP
  cases hb : Op.bytesLess f.path e.path with
  | false => rfl
  | true => have := cmpE_path f e hb; have := cmpE_neg e f; omega
theorem insE_paths {l : List Ev} {e : Ev} (h : PathRises l) : PathRises (insE l e) := by
  induction l with
  | nil => exact List.pairwise_singleton _ _
  | cons f l ih =>
    obtain ⟨h1, h2⟩ := List.pairwise_cons.1 h
    unfold insE
    split
    · rename_i ha
      have ha' : 0 < cmpE f e := by simpa [aboveE] using ha
      have hn := cmpE_neg f e
      have hle : leP e.path f.path := cmpE_leP (by omega)
      refine List.pairwise_cons.2 ⟨fun g hg => ?_, h⟩
      rcases List.mem_cons.1 hg with rfl | hg
      · exact hle
      · exact leP_trans hle (h1 g hg)
    · rename_i ha
      have ha' : ¬ 0 < cmpE f e := by simpa [aboveE] using ha
      refine List.pairwise_cons.2 ⟨fun g hg => ?_, ih h2⟩
      rcases (insE_mem l e g).1 hg with rfl | hg
      · exact cmpE_leP (by omega)
      · exact h1 g hg
theorem addE_paths {h : List Ev} {e : Ev} (H : PathRises h) : PathRises (addE h e) := by
  cases hh : h.any (hitE e) with
  | true => rw [addE_hit hh]; exact H
  | false => rw [addE_no hh]; exact insE_paths (H.filter _)
def grpE (l : List Ev) (p : List UInt8) : List Ev := l.filter fun f => f.path == p
theorem insE_other {l : List Ev} {e : Ev} {p : List UInt8} (hp : e.path ≠ p) : grpE (insE l e) p = grpE l p := by
  have hb : (e.path == p) = false := beq_eq_false_iff_ne.2 hp
  induction l with
  | nil => simp [insE, grpE, hb]
  | cons f l ih =>
    unfold insE
    split
    · unfold grpE at *; rw [List.filter_cons, hb]; simp
    · unfold grpE at *; rw [List.filter_cons, List.filter_cons, ih]
theorem insE_same {l : List Ev} {e : Ev} (h : PathRises l) : grpE (insE l e) e.path = insE (grpE l e.path) e := by
  induction l with
  | nil => simp [insE, grpE]
  | cons f l ih =>
    obtain ⟨h1, h2⟩ := List.pairwise_cons.1 h
    have ih := ih h2
    by_cases hp : f.path = e.path
    · have hb : (f.path == e.path) = true := beq_iff_eq.2 hp
      rw [insE_cons]
      split
      · rename_i ha
        unfold grpE; rw [List.filter_cons, List.filter_cons, hb]
        simp only [BEq.rfl, if_true]
        rw [insE_cons, if_pos ha]
      · rename_i ha
        unfold grpE at ih ⊢; rw [List.filter_cons, List.filter_cons, hb]
        simp only [if_true]
        rw [insE_cons, if_neg ha, ih]
    · have hb : (f.path == e.path) = false := beq_eq_false_iff_ne.2 hp
      rw [insE_cons]
      split
      · rename_i ha
        have ha' : 0 < cmpE f e := by simpa [aboveE] using ha
        have hl : Op.bytesLess e.path f.path = true := by
          rcases cmpB_cases f.path e.path with ⟨-, k⟩ | ⟨k, -, -⟩ | ⟨-, k, -⟩
          · exact absurd k hp
          · unfold cmpE at ha'; rw [if_neg (by omega), k] at ha'; omega
          · exact k
        have hnone : grpE l e.path = [] := by
          unfold grpE
          rw [List.filter_eq_nil_iff]
          intro g hg hge
          have hge' : g.path = e.path := by simpa using hge
          have := h1 g hg
          unfold leP at this; rw [hge', hl] at this; cases this
        unfold grpE at hnone ⊢; rw [List.filter_cons, List.filter_cons, hb, hnone]
        simp [insE_nil]
      · unfold grpE at ih ⊢; rw [List.filter_cons, List.filter_cons, hb]
        simp only [Bool.false_eq_true, if_false]
        exact ih
theorem grp_any (h : List Ev) (e : Ev) : (grpE h e.path).any (hitE e) = h.any (hitE e) := by
  rw [Bool.eq_iff_iff, List.any_eq_true, List.any_eq_true]
  constructor
  · rintro ⟨x, hx, k⟩; exact ⟨x, mem_flt hx, k⟩
  · rintro ⟨x, hx, k⟩; exact ⟨x, List.mem_filter.2 ⟨hx, by simpa using ((hitE_iff e x).1 k).1⟩, k⟩
theorem grp_filter (h : List Ev) (e : Ev) (p : List UInt8) : grpE (h.filter fun f => !outE e f) p = (grpE h p).filter fun f => !outE e f := by
  unfold grpE; rw [List.filter_filter, List.filter_filter]; congr 1; funext f; exact Bool.and_comm _ _
theorem grp_add {h : List Ev} {e : Ev} (H : PathRises h) (p : List UInt8) : grpE (addE h e) p = if e.path = p then addE (grpE h p) e else grpE h p := by
  cases hh : h.any (hitE e) with
  | true =>
    rw [addE_hit hh]
    split
    · rename_i hp; subst hp; rw [addE_hit (by rw [grp_any]; exact hh)]
    · rfl
  | false =>
    rw [addE_no hh]
    split
    · rename_i hp; subst hp
      rw [addE_no (by rw [grp_any]; exact hh), insE_same (H.filter _), grp_filter]
    · rename_i hp
      rw [insE_other hp, grp_filter, List.filter_eq_self]
      intro f hf
      have hfp : f.path = p := by simpa using (List.mem_filter.1 hf).2
      cases ho : outE e f with
      | false => rfl
      | true => exact absurd (((outE_iff e f).1 ho).1.symm.trans hfp) hp
theorem join_paths {h : List Ev} (H : PathRises h) : ∀ k : List Ev, PathRises (joinE h k) := by
  intro k
  induction k generalizing h with
  | nil => exact H
  | cons e k ih => exact ih (addE_paths H)
theorem grp_join {h : List Ev} (H : PathRises h) (p : List UInt8) : ∀ k : List Ev, grpE (joinE h k) p = joinE (grpE h p) (grpE k p) := by
  intro k
  induction k generalizing h with
  | nil => rfl
  | cons e k ih =>
    show grpE (joinE (addE h e) k) p = _
    rw [ih (addE_paths H), grp_add H p]
    by_cases hp : e.path = p
    · have hb : (e.path == p) = true := beq_iff_eq.2 hp
      have : grpE (e :: k) p = e :: grpE k p := by unfold grpE; rw [List.filter_cons, if_pos hb]
      rw [if_pos hp, this]; rfl
    · have hb : ¬ (e.path == p) = true := by simpa using hp
      have : grpE (e :: k) p = grpE k p := by unfold grpE; rw [List.filter_cons, if_neg hb]
      rw [if_neg hp, this]
/-- What rises by path is its groups, one behind the other. -/
theorem flat_groups : ∀ (ks : List (List UInt8)) (l : List Ev), PathRises l → ks.Pairwise (fun a b => Op.bytesLess a b = true) → (∀ e ∈ l, e.path ∈ ks) → ks.flatMap (grpE l) = l
  | [], l, _, _, h => by
    cases l with
    | nil => rfl
    | cons e l => have := h e (by simp); cases this
  | p :: ks, l, H, hk, hm => by
    obtain ⟨h1, h2⟩ := List.pairwise_cons.1 hk
    rw [List.flatMap_cons]
    have hsplit : ∀ l : List Ev, PathRises l → (∀ e ∈ l, e.path ∈ p :: ks) → l = grpE l p ++ l.filter fun f => !(f.path == p) := by
      intro l
      induction l with
      | nil => intros; rfl
      | cons e l ih =>
        intro H hm
        obtain ⟨g1, g2⟩ := List.pairwise_cons.1 H
        have ih := ih g2 (fun x hx => hm x (by simp [hx]))
        by_cases hp : e.path = p
        · have hb : (e.path == p) = true := beq_iff_eq.2 hp
          unfold grpE at ih ⊢
          rw [List.filter_cons, List.filter_cons, hb]
          simp only [if_true, Bool.not_true, Bool.false_eq_true, if_false, List.cons_append]
          rw [← ih]
        · have hb : (e.path == p) = false := beq_eq_false_iff_ne.2 hp
          have hek : e.path ∈ ks := (List.mem_cons.1 (hm e (by simp))).resolve_left hp
          have hless := h1 _ hek
          have hnone : grpE l p = [] := by
            unfold grpE
            rw [List.filter_eq_nil_iff]
            intro g hg hge
            have hge' : g.path = p := by simpa using hge
            have := g1 g hg
            unfold leP at this; rw [hge', hless] at this; cases this
          rw [hnone] at ih
          unfold grpE at hnone ⊢
          rw [List.filter_cons, List.filter_cons, hb, hnone]
          simp only [Bool.false_eq_true, if_false, Bool.not_false, if_true, List.nil_append] at ih ⊢
          rw [← ih]
    have hrest := flat_groups ks (l.filter fun f => !(f.path == p)) (H.filter _) h2 (fun e he => by
      obtain ⟨he1, he2⟩ := List.mem_filter.1 he
      exact (List.mem_cons.1 (hm e he1)).resolve_left (by simpa using he2))
    have hg : ks.flatMap (grpE l) = ks.flatMap (grpE (l.filter fun f => !(f.path == p))) := by
      have : ∀ q ∈ ks, grpE l q = grpE (l.filter fun f => !(f.path == p)) q := fun q hq => by
        have hne : p ≠ q := fun e => by have := h1 q hq; rw [e, bytesLess_irrefl] at this; cases this
        unfold grpE; rw [List.filter_filter]; congr 1; funext f
        by_cases hf : f.path = q
        · simp [hf, hne.symm]
        · simp [hf]
      rw [List.flatMap_def, List.flatMap_def, List.map_congr_left this]
    rw [hg, hrest, ← hsplit l H hm]
/-! ### heads of a set of events -/
def TopOf (S : List Ev) (e : Ev) : Prop := e ∈ S ∧ ∀ f ∈ S, f.path = e.path → knE f e = false
def HeadsOf (S h : List Ev) : Prop := Rises h ∧ ∀ e, e ∈ h ↔ TopOf S e
structure Good (S : List Ev) : Prop where
  one : ∀ e ∈ S, ∀ f ∈ S, e.r = f.r → e.q = f.q → e = f
  irr : ∀ e ∈ S, knE e e = false
  tr : ∀ e ∈ S, ∀ f ∈ S, ∀ g ∈ S, knE e f = true → knE f g = true → knE e g = true
theorem good_sub {S T : List Ev} (G : Good S) (h : ∀ e ∈ T, e ∈ S) : Good T := ⟨fun e he f hf => G.one e (h e he) f (h f hf), fun e he => G.irr e (h e he), fun e he f hf g hg => G.tr e (h e he) f (h f hf) g (h g hg)⟩
/-- Above each one there is a last one. -/
theorem top_above {S : List Ev} (G : Good S) : ∀ (n : Nat) (f : Ev), f ∈ S → (S.filter fun x => knE x f).length ≤ n → ∃ g, TopOf S g ∧ g.path = f.path ∧ (g = f ∨ knE g f = true) := by
  intro n
  induction n with
  | zero =>
    intro f hf hn
    refine ⟨f, ⟨hf, fun x hx _ => ?_⟩, rfl, .inl rfl⟩
    have h0 : S.filter (fun x => knE x f) = [] := List.eq_nil_of_length_eq_zero (by omega)
    rw [List.filter_eq_nil_iff] at h0
    simpa using h0 x hx
  | succ n ih =>
    intro f hf hn
    by_cases ht : ∃ x, x ∈ S ∧ x.path = f.path ∧ knE x f = true
    · obtain ⟨x, hx, hp, hk⟩ := ht
      have hlt : (S.filter fun y => knE y x).length < (S.filter fun y => knE y f).length := by
        have hle : ∀ T : List Ev, (∀ y ∈ T, y ∈ S) → (T.filter fun y => knE y x).length ≤ (T.filter fun y => knE y f).length := by
          intro T
          induction T with
          | nil => intro _; exact Nat.le_refl _
          | cons y T ihT =>
            intro hT
            have ihT := ihT (fun z hz => hT z (by simp [hz]))
            rw [List.filter_cons, List.filter_cons]
            cases hy : knE y x with
            | true => rw [G.tr y (hT y (by simp)) x hx f hf hy hk]; simpa using ihT
            | false => cases knE y f <;> simp <;> omega
        have hlt2 : ∀ T : List Ev, (∀ y ∈ T, y ∈ S) → x ∈ T → (T.filter fun y => knE y x).length < (T.filter fun y => knE y f).length := by
          intro T
          induction T with
          | nil => intro _ h; cases h
          | cons y T ihT =>
            intro hT hxT
            rw [List.filter_cons, List.filter_cons]
            rcases List.mem_cons.1 hxT with rfl | hxT
            · rw [G.irr x hx, hk]
              have := hle T (fun z hz => hT z (by simp [hz]))
              simp; omega
            · have ihT := ihT (fun z hz => hT z (by simp [hz])) hxT
              cases hy : knE y x with
              | true => rw [G.tr y (hT y (by simp)) x hx f hf hy hk]; simpa using ihT
              | false => cases knE y f <;> simp <;> omega
        exact hlt2 S (fun _ h => h) hx
      obtain ⟨g, g1, g2, g3⟩ := ih x hx (by omega)
      refine ⟨g, g1, g2.trans hp, .inr ?_⟩
      rcases g3 with rfl | g3
      · exact hk
      · exact G.tr g g1.1 x hx f hf g3 hk
    · exact ⟨f, ⟨hf, fun x hx hp => by
        cases hk : knE x f with
        | false => rfl
        | true => exact absurd ⟨x, hx, hp, hk⟩ ht⟩, rfl, .inl rfl⟩
theorem top_up {S : List Ev} (G : Good S) {f : Ev} (hf : f ∈ S) : ∃ g, TopOf S g ∧ g.path = f.path ∧ (g = f ∨ knE g f = true) := top_above G _ f hf (Nat.le_refl _)
theorem headsOf_nil : HeadsOf [] [] := ⟨List.Pairwise.nil, fun e => ⟨fun h => (by cases h), fun h => h.1⟩⟩
theorem headsOf_add {S h : List Ev} {e : Ev} (G : Good (S ++ [e])) (H : HeadsOf S h) : HeadsOf (S ++ [e]) (addE h e) := by
  have GS : Good S := good_sub G (fun x hx => by simp [hx])
  have heS : e ∈ S ++ [e] := by simp
  have inS : ∀ x, x ∈ S → x ∈ S ++ [e] := fun x hx => by simp [hx]
  cases hh : h.any (hitE e) with
  | true =>
    rw [addE_hit hh]
    obtain ⟨f, hf, hhit⟩ := List.any_eq_true.1 hh
    obtain ⟨hp, hd⟩ := (hitE_iff e f).1 hhit
    have hfS := ((H.2 f).1 hf).1
    refine ⟨H.1, fun x => (H.2 x).trans ⟨?_, ?_⟩⟩
    · rintro ⟨h1, h2⟩
      refine ⟨inS x h1, fun y hy hyp => ?_⟩
      rcases List.mem_append.1 hy with hy | hy
      · exact h2 y hy hyp
      · rw [List.mem_singleton.1 hy] at hyp ⊢
        cases hk : knE e x with
        | false => rfl
        | true =>
          rcases hd with hd | hd
          · obtain ⟨a, b⟩ := (dotE_iff f e).1 hd
            have := G.one f (inS f hfS) e heS a b
            rw [← this] at hk hyp
            have := h2 f hfS hyp; rw [hk] at this; cases this
          · have := h2 f hfS (hp.trans hyp)
            rw [G.tr f (inS f hfS) e heS x (inS x h1) hd hk] at this; cases this
    · rintro ⟨h1, h2⟩
      rcases List.mem_append.1 h1 with h1 | h1
      · exact ⟨h1, fun y hy => h2 y (inS y hy)⟩
      · have hx := List.mem_singleton.1 h1; subst hx
        rcases hd with hd | hd
        · obtain ⟨a, b⟩ := (dotE_iff f x).1 hd
          have := G.one f (inS f hfS) x heS a b
          subst this
          exact ⟨hfS, fun y hy => h2 y (inS y hy)⟩
        · have := h2 f (inS f hfS) hp; rw [hd] at this; cases this
  | false =>
    rw [addE_no hh]
    have hno : ∀ f ∈ h, f.path = e.path → dotE f e = false ∧ knE f e = false := fun f hf hp => by
      have := List.any_eq_false.1 hh f hf
      rw [hitE_iff] at this
      constructor
      · cases hd : dotE f e with
        | false => rfl
        | true => exact absurd ⟨hp, .inl hd⟩ this
      · cases hd : knE f e with
        | false => rfl
        | true => exact absurd ⟨hp, .inr hd⟩ this
    have hnoS : ∀ f ∈ S, f.path = e.path → f ≠ e ∧ knE f e = false := fun f hf hp => by
      obtain ⟨g, g1, g2, g3⟩ := top_up GS hf
      have hg := hno g ((H.2 g).2 g1) (g2.trans hp)
      have hgS := inS g g1.1
      rcases g3 with rfl | g3
      · refine ⟨fun k => ?_, hg.2⟩
        rw [k] at hg; have := (dotE_iff e e).2 ⟨rfl, rfl⟩; rw [hg.1] at this; cases this
      · constructor
        · intro k; rw [k] at g3; rw [g3] at hg; exact absurd hg.2 (by simp)
        · cases hk : knE f e with
          | false => rfl
          | true => have := G.tr g hgS f (inS f hf) e heS g3 hk; rw [hg.2] at this; cases this
    refine ⟨insE_rises (H.1.filter _) (fun f hf hz => ?_), fun x => ?_⟩
    · obtain ⟨a, b, c⟩ := (cmpE_zero f e).1 hz
      have := (hno f (mem_flt hf) a).1
      rw [(dotE_iff f e).2 ⟨b, c⟩] at this; cases this
    · rw [insE_mem, List.mem_filter]
      constructor
      · rintro (rfl | ⟨h1, h2⟩)
        · refine ⟨heS, fun y hy hyp => ?_⟩
          rcases List.mem_append.1 hy with hy | hy
          · exact (hnoS y hy hyp).2
          · rw [List.mem_singleton.1 hy]; exact G.irr _ heS
        · obtain ⟨h3, h4⟩ := (H.2 x).1 h1
          refine ⟨inS x h3, fun y hy hyp => ?_⟩
          rcases List.mem_append.1 hy with hy | hy
          · exact h4 y hy hyp
          · rw [List.mem_singleton.1 hy] at hyp ⊢
            cases hk : knE e x with
            | false => rfl
            | true => rw [(outE_iff e x).2 ⟨hyp.symm, hk⟩] at h2; cases h2
      · rintro ⟨h1, h2⟩
        rcases List.mem_append.1 h1 with h1 | h1
        · refine .inr ⟨(H.2 x).2 ⟨h1, fun y hy => h2 y (inS y hy)⟩, ?_⟩
          cases ho : outE e x with
          | false => rfl
          | true =>
            obtain ⟨a, b⟩ := (outE_iff e x).1 ho
            have := h2 e heS a.symm; rw [b] at this; cases this
        · exact .inl (List.mem_singleton.1 h1)
theorem headsOf_join {S h : List Ev} : ∀ (k : List Ev), Good (S ++ k) → HeadsOf S h → HeadsOf (S ++ k) (joinE h k) := by
  intro k
  induction k generalizing S h with
  | nil => intro _ H; rw [List.append_nil]; exact H
  | cons e k ih =>
    intro G H
    rw [List.append_cons] at G ⊢
    exact ih G (headsOf_add (good_sub G (fun x hx => List.mem_append.2 (.inl hx))) H)
theorem rises_eq : ∀ {a b : List Ev}, Rises a → Rises b → (∀ e, e ∈ a ↔ e ∈ b) → a = b
  | [], [], _, _, _ => rfl
  | [], y :: b, _, _, h => by have := (h y).2 (by simp); cases this
  | x :: a, [], _, _, h => by have := (h x).1 (by simp); cases this
  | x :: a, y :: b, ha, hb, h => by
    obtain ⟨a1, a2⟩ := List.pairwise_cons.1 ha
    obtain ⟨b1, b2⟩ := List.pairwise_cons.1 hb
    have self : ∀ e : Ev, ¬ cmpE e e < 0 := fun e => by have := (cmpE_zero e e).2 ⟨rfl, rfl, rfl⟩; omega
    have hxy : x = y := by
      rcases List.mem_cons.1 ((h x).1 (by simp)) with hx | hx
      · exact hx
      · rcases List.mem_cons.1 ((h y).2 (by simp)) with hy | hy
        · exact hy.symm
        · have k1 := b1 x hx; have k2 := a1 y hy
          have := cmpE_neg x y; omega
    subst hxy
    rw [rises_eq a2 b2 (fun e => ⟨fun he => by
      rcases List.mem_cons.1 ((h e).1 (by simp [he])) with hx | hx
      · subst hx; exact absurd (a1 e he) (self e)
      · exact hx, fun he => by
      rcases List.mem_cons.1 ((h e).2 (by simp [he])) with hx | hx
      · subst hx; exact absurd (b1 e he) (self e)
      · exact hx⟩)]
theorem headsOf_one {S a b : List Ev} (ha : HeadsOf S a) (hb : HeadsOf S b) : a = b := rises_eq ha.1 hb.1 fun e => (ha.2 e).trans (hb.2 e).symm
/-- Of heads of a part what matters are the heads alone. -/
theorem headsOf_more {S T h t : List Ev} (G : Good (S ++ T)) (ht : HeadsOf T t) (H : HeadsOf (S ++ t) h) : HeadsOf (S ++ T) h := by
  have GT : Good T := good_sub G (fun x hx => by simp [hx])
  have tT : ∀ x, x ∈ t → x ∈ T := fun x hx => ((ht.2 x).1 hx).1
  refine ⟨H.1, fun x => (H.2 x).trans ⟨?_, ?_⟩⟩
  · rintro ⟨h1, h2⟩
    have hx : x ∈ S ++ T := by
      rcases List.mem_append.1 h1 with h1 | h1
      · simp [h1]
      · simp [tT x h1]
    refine ⟨hx, fun y hy hyp => ?_⟩
    rcases List.mem_append.1 hy with hy | hy
    · exact h2 y (by simp [hy]) hyp
    · obtain ⟨g, g1, g2, g3⟩ := top_up GT hy
      have hgt := (ht.2 g).2 g1
      have k := h2 g (by simp [hgt]) (g2.trans hyp)
      rcases g3 with rfl | g3
      · exact k
      · cases hk : knE y x with
        | false => rfl
        | true => rw [G.tr g (by simp [g1.1]) y (by simp [hy]) x hx g3 hk] at k; cases k
  · rintro ⟨h1, h2⟩
    refine ⟨?_, fun y hy hyp => h2 y ?_ hyp⟩
    · rcases List.mem_append.1 h1 with h1 | h1
      · simp [h1]
      · exact List.mem_append.2 (.inr ((ht.2 x).2 ⟨h1, fun y hy hyp => h2 y (by simp [hy]) hyp⟩))
    · rcases List.mem_append.1 hy with hy | hy
      · simp [hy]
      · simp [tT y hy]
/-! ### the document's last ones -/
def insL : List Ev → Ev → List Ev
  | [], e => [e]
  | f :: l, e => if cmpE f e < 0 then f :: insL l e else e :: f :: l
def lastAt (l : List Ev) (e : Ev) : Nat := l.findIdx fun f => !decide (cmpE f e < 0)
theorem insL_place (l : List Ev) (e : Ev) : insL l e = l.take (lastAt l e) ++ e :: l.drop (lastAt l e) := by
  unfold lastAt
  induction l with
  | nil => rfl
  | cons f l ih =>
    unfold insL
    rw [List.findIdx_cons]
    by_cases h : cmpE f e < 0
    · simp [h, ih]
    · simp [h]
theorem insL_insE {l : List Ev} {e : Ev} (h : ∀ f ∈ l, cmpE f e ≠ 0) : insL l e = insE l e := by
  induction l with
  | nil => rfl
  | cons f l ih =>
    have hz := h f (by simp)
    unfold insL insE
    rw [ih (fun g hg => h g (by simp [hg]))]
    by_cases hc : cmpE f e < 0
    · rw [if_pos hc, if_neg (by simp [aboveE]; omega)]
    · rw [if_neg hc, if_pos (by simp [aboveE]; omega)]
/-- Is the event at place i a last one, and the first of its dot? -/
def lastOk (i k : Nat) (e f : Ev) : Bool := (!(f.path == e.path) || !knE f e) && (decide (i ≤ k) || !decide (cmpD f.r f.q e.r e.q = 0))
def lastIs (l : List Ev) (i : Nat) (e : Ev) : Bool := (List.range l.length).all fun k => match l[k]? with | some f => lastOk i k e f | none => true
def lastTo (l : List Ev) : Nat → List Ev
  | 0 => []
  | i + 1 => match l[i]? with | some e => if lastIs l i e then insL (lastTo l i) e else lastTo l i | none => lastTo l i
def lastE (l : List Ev) : List Ev := lastTo l l.length
theorem cmpD_zero (r q r' q' : Int) : cmpD r q r' q' = 0 ↔ r = r' ∧ q = q' := by
  rcases cmp_cases r q r' q' with ⟨k, k1, k2⟩ | ⟨k, k1⟩ | ⟨k, k1⟩
  · rw [k]; simp [k1, k2]
  · rw [k]; constructor
    · intro x; omega
    · rintro ⟨x, y⟩; omega
  · rw [k]; constructor
    · intro x; omega
    · rintro ⟨x, y⟩; omega
theorem lastIs_iff (l : List Ev) (i : Nat) (e : Ev) : lastIs l i e = true ↔ (∀ f ∈ l, f.path = e.path → knE f e = false) ∧ ∀ k f, k < i → l[k]? = some f → dotE f e = false := by
  unfold lastIs
  rw [List.all_eq_true]
  constructor
  · intro h
    refine ⟨fun f hf hp => ?_, fun k f hk hf => ?_⟩
    · obtain ⟨k, hk, rfl⟩ := List.mem_iff_getElem.1 hf
      have := h k (List.mem_range.2 hk)
      rw [List.getElem?_eq_getElem hk] at this
      simp [lastOk, hp] at this
      exact this.1
    · have hkl := (List.getElem?_eq_some_iff.1 hf).1
      have := h k (List.mem_range.2 hkl)
      rw [hf] at this
      simp only [lastOk, Bool.and_eq_true, Bool.or_eq_true, Bool.not_eq_true', decide_eq_true_eq, decide_eq_false_iff_not] at this
      cases hd : dotE f e with
      | false => rfl
      | true =>
        obtain ⟨a, b⟩ := (dotE_iff f e).1 hd
        rcases this.2 with h1 | h1
        · omega
        · exact absurd ((cmpD_zero _ _ _ _).2 ⟨a, b⟩) h1
  · rintro ⟨h1, h2⟩ k hk
    have hk := List.mem_range.1 hk
    rw [List.getElem?_eq_getElem hk]
    simp only [lastOk, Bool.and_eq_true, Bool.or_eq_true, Bool.not_eq_true', decide_eq_true_eq, decide_eq_false_iff_not]
    constructor
    · by_cases hp : l[k].path = e.path
      · exact .inr (h1 _ (List.getElem_mem hk) hp)
      · exact .inl (by simpa using hp)
    · by_cases hi : i ≤ k
      · exact .inl hi
      · refine .inr fun hz => ?_
        have := h2 k l[k] (by omega) (List.getElem?_eq_getElem hk)
        rw [(dotE_iff _ _).2 ((cmpD_zero _ _ _ _).1 hz)] at this; cases this
theorem lastTo_spec {l : List Ev} : ∀ i, i ≤ l.length → Rises (lastTo l i) ∧ ∀ e, e ∈ lastTo l i ↔ ∃ k, k < i ∧ l[k]? = some e ∧ lastIs l k e = true
  | 0, _ => ⟨List.Pairwise.nil, fun e => ⟨fun h => (by cases h), fun ⟨k, h, _⟩ => absurd h (Nat.not_lt_zero _)⟩⟩
  | i + 1, hi => by
    obtain ⟨h1, h2⟩ := lastTo_spec (l := l) i (by omega)
    have hl : l[i]? = some l[i] := List.getElem?_eq_getElem (by omega)
    have hstep : lastTo l (i + 1) = if lastIs l i l[i] then insL (lastTo l i) l[i] else lastTo l i := by rw [lastTo, hl]
    rw [hstep]
    cases his : lastIs l i l[i] with
    | true =>
      rw [if_pos rfl]
      have hne : ∀ f ∈ lastTo l i, cmpE f l[i] ≠ 0 := fun f hf hz => by
        obtain ⟨k, hk, hlk, -⟩ := (h2 f).1 hf
        have := ((lastIs_iff l i l[i]).1 his).2 k f hk hlk
        obtain ⟨-, b, c⟩ := (cmpE_zero f l[i]).1 hz
        rw [(dotE_iff _ _).2 ⟨b, c⟩] at this; cases this
      rw [insL_insE hne]
      refine ⟨insE_rises h1 hne, fun e => ?_⟩
      rw [insE_mem, h2 e]
      constructor
      · rintro (rfl | ⟨k, a, b, c⟩)
        · exact ⟨i, by omega, hl, his⟩
        · exact ⟨k, by omega, b, c⟩
      · rintro ⟨k, a, b, c⟩
        by_cases hk : k = i
        · subst hk; rw [hl] at b; exact .inl (Option.some.inj b).symm
        · exact .inr ⟨k, by omega, b, c⟩
    | false =>
      rw [if_neg (by simp)]
      refine ⟨h1, fun e => ?_⟩
      rw [h2 e]
      constructor
      · rintro ⟨k, a, b, c⟩; exact ⟨k, by omega, b, c⟩
      · rintro ⟨k, a, b, c⟩
        by_cases hk : k = i
        · subst hk; rw [hl] at b; cases b; rw [his] at c; cases c
        · exact ⟨k, by omega, b, c⟩
theorem lastE_heads {l : List Ev} (G : Good l) : HeadsOf l (lastE l) := by
  obtain ⟨h1, h2⟩ := lastTo_spec (l := l) l.length (Nat.le_refl _)
  refine ⟨h1, fun e => (h2 e).trans ⟨?_, ?_⟩⟩
  · rintro ⟨k, a, b, c⟩
    exact ⟨List.mem_of_getElem? b, ((lastIs_iff l k e).1 c).1⟩
  · rintro ⟨he, ht⟩
    -- the first place
    have : ∀ n : Nat, ∀ k : Nat, k ≤ n → l[k]? = some e → ∃ j : Nat, j < l.length ∧ l[j]? = some e ∧ lastIs l j e = true := by
      intro n
      induction n with
      | zero =>
        intro k hk hl
        obtain rfl : k = 0 := by omega
        exact ⟨0, (List.getElem?_eq_some_iff.1 hl).1, hl, (lastIs_iff l 0 e).2 ⟨ht, fun j f hj => absurd hj (Nat.not_lt_zero _)⟩⟩
      | succ n ih =>
        intro k hk hl
        by_cases hp : ∃ j, j < k ∧ l[j]? = some e
        · obtain ⟨j, hj, hlj⟩ := hp
          exact ih j (by omega) hlj
        · refine ⟨k, (List.getElem?_eq_some_iff.1 hl).1, hl, (lastIs_iff l k e).2 ⟨ht, fun j f hj hf => ?_⟩⟩
          cases hd : dotE f e with
          | false => rfl
          | true =>
            obtain ⟨a, b⟩ := (dotE_iff f e).1 hd
            have := G.one f (List.mem_of_getElem? hf) e he a b
            exact absurd ⟨j, hj, by rw [hf, this]⟩ hp
    obtain ⟨k, hk, hke⟩ := List.mem_iff_getElem.1 he
    exact this k k (Nat.le_refl _) (by rw [List.getElem?_eq_getElem hk, hke])
theorem good_hist {h : Hist} {n : Nat} (H : InvH h n) : Good h.out where
  one e he f hf hr hq := by
    obtain ⟨i, hi, rfl⟩ := List.mem_iff_getElem.1 he
    obtain ⟨k, hk, rfl⟩ := List.mem_iff_getElem.1 hf
    by_cases hik : i = k
    · subst hik; rfl
    · exact absurd ⟨hr, hq⟩ ((hist_says H (List.getElem?_eq_getElem hi) (List.getElem?_eq_getElem hk)).2.2.2 hik)
  irr e he := by
    obtain ⟨i, hi, rfl⟩ := List.mem_iff_getElem.1 he
    exact (hist_says H (List.getElem?_eq_getElem hi) (List.getElem?_eq_getElem hi)).2.1
  tr e he f hf g hg h1 h2 := by
    obtain ⟨i, hi, rfl⟩ := List.mem_iff_getElem.1 he
    obtain ⟨k, hk, rfl⟩ := List.mem_iff_getElem.1 hf
    have hl := ((hist_says H (List.getElem?_eq_getElem hi) (List.getElem?_eq_getElem hk)).2.2.1 h1).2
    obtain ⟨j, a, b, c, d⟩ := (hasV_eq _ _ _).1 h2
    exact (hasV_eq _ _ _).2 ⟨j, a, b, c, Int.le_trans d ((leqV_iff _ _).1 hl j a)⟩
theorem may_hist {h : Hist} {n : Nat} (H : InvH h n) : ∀ e ∈ h.out, mayE e = true := fun e he => by
  obtain ⟨i, hi, rfl⟩ := List.mem_iff_getElem.1 he
  exact (hist_says H (List.getElem?_eq_getElem hi) (List.getElem?_eq_getElem hi)).1
/-- Heads of what replicas made may be. -/
theorem heads_of {S h : List Ev} (G : Good S) (hm : ∀ e ∈ S, mayE e = true) (H : HeadsOf S h) : Heads h := by
  refine ⟨fun e he => hm e ((H.2 e).1 he).1, ?_⟩
  have := H.1
  refine List.Pairwise.imp_of_mem ?_ this
  intro e f he hf hc
  obtain ⟨e1, e2⟩ := (H.2 e).1 he
  obtain ⟨f1, f2⟩ := (H.2 f).1 hf
  refine ⟨hc, ?_, fun hp => ⟨f2 e e1 hp, e2 f f1 hp.symm⟩⟩
  cases hd : dotE e f with
  | false => rfl
  | true =>
    obtain ⟨a, b⟩ := (dotE_iff e f).1 hd
    have := G.one e e1 f f1 a b
    subst this
    have := (cmpE_zero e e).2 ⟨rfl, rfl, rfl⟩; omega
end Go.Proofs.YtcdjkjadbhejpaaGreatDoor
namespace Go.Proofs.YtcdjkjadbhejpaaGreatDoor
open Go.RowKit
/-- Dots as the cells of a slice. -/
def dotsC : List D2 → List Value
  | [] => []
  | d :: t => .int .i64 d.1 :: .int .i64 d.2 :: dotsC t
theorem dotsC_length (l : List D2) : (dotsC l).length = l.length * 2 := by
  induction l with
  | nil => rfl
  | cons d t ih => rw [dotsC, List.length_cons, List.length_cons, ih, List.length_cons]; omega
theorem dotsC_append (l m : List D2) : dotsC (l ++ m) = dotsC l ++ dotsC m := by
  induction l with
  | nil => rfl
  | cons d t ih => rw [List.cons_append, dotsC, dotsC, ih]; rfl
theorem dotsC_at (l : List D2) : ∀ k d, l[k]? = some d → (dotsC l)[k * 2]? = some (.int .i64 d.1) ∧ (dotsC l)[k * 2 + 1]? = some (.int .i64 d.2) := by
  induction l with
  | nil => intro k d h; simp at h
  | cons y t ih =>
    intro k d h
    cases k with
    | zero => simp at h; subst h; exact ⟨rfl, rfl⟩
    | succ k =>
      have := ih k d (by simpa using h)
      rw [dotsC, show (k + 1) * 2 = k * 2 + 2 from by omega]
      exact this
theorem dotsC_inv (l : List D2) : ∀ j u, (dotsC l)[j]? = some u → ∃ i d, l[i]? = some d ∧ ((j = i * 2 ∧ u = .int .i64 d.1) ∨ (j = i * 2 + 1 ∧ u = .int .i64 d.2)) := by
  induction l with
  | nil => intro j u h; simp [dotsC] at h
  | cons d t ih =>
    intro j u h
    match j, h with
    | 0, h => exact ⟨0, d, rfl, .inl ⟨rfl, by simpa [dotsC] using h.symm⟩⟩
    | 1, h => exact ⟨0, d, rfl, .inr ⟨rfl, by simpa [dotsC] using h.symm⟩⟩
    | j + 2, h =>
      obtain ⟨i, y, h1, h2⟩ := ih j u (by simpa [dotsC] using h)
      exact ⟨i + 1, y, by simpa using h1, h2.elim (fun ⟨a, b⟩ => .inl ⟨by omega, b⟩) (fun ⟨a, b⟩ => .inr ⟨by omega, b⟩)⟩
theorem dotsC_one (l : List D2) : ∀ u ∈ dotsC l, u.oneCell' = true := by
  induction l with
  | nil => intro u h; cases h
  | cons d t ih =>
    intro u hu
    rw [dotsC] at hu
    rcases List.mem_cons.1 hu with rfl | hu
    · rfl
    · rcases List.mem_cons.1 hu with rfl | hu
      · rfl
      · exact ih u hu
/-- A slice value whose elements are these dots. -/
def HasDots (w : World) (v : Value) (l : List D2) : Prop :=
  ∃ ao cap, v = .slice ao l.length cap ∧ (ao = none → l = [] ∧ cap = 0) ∧ ∀ ad, ao = some ad → l.length ≤ cap ∧ ∀ j u, (dotsC l)[j]? = some u → w.cell? (ad.add j) = some u
theorem dots_nil (w : World) : HasDots w (.slice none 0 0) [] := ⟨none, 0, rfl, fun _ => ⟨rfl, rfl⟩, fun _ h => by cases h⟩
theorem dots_below {w w' : World} {v : Value} {l : List D2} (h : HasDots w v l) (hb : Below w.heap.size w w') : HasDots w' v l := by
  obtain ⟨ao, cap, rfl, hnil, hc⟩ := h
  refine ⟨ao, cap, rfl, hnil, fun ad had => ⟨(hc ad had).1, fun j u hu => ?_⟩⟩
  have h1 := (hc ad had).2 j u hu
  exact (World.cell?_of_block (hb.block (ad.add j).block (World.block_lt_of_cell? w _ h1))).trans h1
theorem dots_shape {w : World} {v : Value} {l : List D2} (h : HasDots w v l) (n : Nat) (hn : n = l.length) : ∃ ao cap, v = .slice ao n cap := by
  obtain ⟨ao, cap, rfl, -⟩ := h
  exact ⟨ao, cap, by rw [hn]⟩
theorem addr_next2 (ad : Addr) (k : Nat) : ad.add (k + 1) = ⟨(ad.add k).block, (ad.add k).off + 1, none⟩ := by
  unfold Addr.add
  rw [if_neg (by omega)]
  split
  · rename_i h; subst h; rfl
  · rfl
/-- A dot of such a slice. -/
theorem dots_at {w : World} {v : Value} {l : List D2} (h : HasDots w v l) (n k : Nat) (hn : l.length = n) (d : D2) (hd : l[k]? = some d) : ∃ ad cap, v = .slice (some ad) n cap ∧ w.cell? (ad.add (k * 2)) = some (.int .i64 d.1) ∧ w.cell? ⟨(ad.add (k * 2)).block, (ad.add (k * 2)).off + 1, none⟩ = some (.int .i64 d.2) := by
  obtain ⟨ao, cap, rfl, hnil, hc⟩ := h
  cases ao with
  | none => obtain ⟨rfl, _⟩ := hnil rfl; simp at hd
  | some ad =>
    obtain ⟨p1, p2⟩ := dotsC_at l k d hd
    exact ⟨ad, cap, by rw [← hn], (hc ad rfl).2 _ _ p1, by rw [← addr_next2]; exact (hc ad rfl).2 _ _ p2⟩
theorem dots_of_own {w : World} {base : Nat} {e : TypeId} {v : Value} {l : List D2} (h : w.ownsRow base e 2 v l.length (dotsC l)) : HasDots w v l := by
  rcases h.2 with ⟨rfl, h0⟩ | ⟨g, cap, cur, rfl, rest⟩
  · obtain rfl : l = [] := List.eq_nil_of_length_eq_zero h0
    exact dots_nil w
  · exact ⟨some ⟨g, 0, none⟩, cap, rfl, (fun h => by cases h), fun ad had => ⟨rest.2.2.1, fun j u hu => by
      cases had; exact h.cells rfl j u hu⟩⟩
/-- Dots in a block that holds dots alone. -/
def TypDots (w : World) (v : Value) (l : List D2) : Prop := HasDots w v l ∧ (l = [] ∨ ∃ k cs fr, v.ownBlock = some k ∧ w.heap[k]? = some (.cells cs 24 fr))
theorem typ_nil (w : World) : TypDots w (.slice none 0 0) [] := ⟨dots_nil w, .inl rfl⟩
theorem typ_of_own {w : World} {base : Nat} {v : Value} {l : List D2} (h : w.ownsRow base 24 2 v l.length (dotsC l)) : TypDots w v l := by
  refine ⟨dots_of_own h, ?_⟩
  rcases h.2 with ⟨rfl, h0⟩ | ⟨g, cap, cur, rfl, h1, h2, rest⟩
  · exact .inl (List.eq_nil_of_length_eq_zero h0)
  · exact .inr ⟨g, cur, (0, 0), rfl, h2⟩
theorem typ_below {w w' : World} {v : Value} {l : List D2} (h : TypDots w v l) (hb : Below w.heap.size w w') : TypDots w' v l := by
  refine ⟨dots_below h.1 hb, h.2.elim .inl fun ⟨k, cs, fr, h1, h2⟩ => .inr ⟨k, cs, fr, h1, ?_⟩⟩
  exact (hb.block k (Array.getElem?_eq_some_iff.1 h2).1).trans h2
theorem dots_own_nil (w : World) (e : TypeId) (base : Nat) : w.ownsRow base e 2 (.slice none 0 0) ([] : List D2).length (dotsC []) := ⟨rfl, .inl ⟨rfl, rfl⟩⟩
theorem append_dot {P : Program} {w : World} {ops : Array Oper} {rest : List Oper} {o : Oper} {a : Act} {Q : Exit → Act → World → Prop} (hgd : o.guard = none) (s x : Operand) (t : TypeId)
    (ho : o.op = .call { callee := .builtin .append, args := #[s, x], argTypes := #[t, t] })
    (base : Nat) (e : TypeId) (i : TypeInfo) (ht : P.underlying t = some (.slice e)) (hi : P.info? e = some i) (hz : (i.zero.map (·.cells.size), i.size, i.bytes) = (some 2, 2, 16))
    (v : Value) (l : List D2) (d : D2) (hs : a.eval s = v) (hown : w.ownsRow base e 2 v l.length (dotsC l)) (ad : Addr) (c : Nat) (hx : a.eval x = .slice (some ad) 1 c)
    (hc : w.cell? ad = some (.int .i64 d.1) ∧ w.cell? (ad.add 1) = some (.int .i64 d.2))
    (hlen : l.length + 1 ≤ 2000000) (hbase : base ≤ w.heap.size)
    (h : ∀ v' w', w'.ownsRow base e 2 v' (l ++ [d]).length (dotsC (l ++ [d])) → w.grownBy w' v.ownBlock → wpList P ops Q rest (a.put o.dst v') w') : wpList P ops Q (o :: rest) a w := by
  have hadd : ad.add 0 = ad := by unfold Addr.add; split <;> simp_all
  simp only [Prod.mk.injEq] at hz
  obtain ⟨hz1, hz2, hz3⟩ := hz
  cases hzz : i.zero with
  | none => rw [hzz] at hz1; cases hz1
  | some z =>
    rw [hzz] at hz1
    simp only [Option.map_some, Option.some.injEq] at hz1
    refine wpList_append_own w hgd s x t ho base e i z 2 16 ht hi hzz hz2 hz3 hz1 (by decide) v l.length (dotsC l) hs hown ad 1 c (dotsC [d]) hx rfl (fun j u hj => ?_) (fun u hu => dotsC_one [d] u hu)
      (by unfold maxLen; omega) (by omega) hbase fun v' w' h1 h2 _ => h v' w' (by rw [dotsC_append, List.length_append]; exact h1) h2
    match j, hj with
    | 0, hj => rw [hadd, hc.1]; exact hj
    | 1, hj => rw [hc.2]; exact hj
/-- An array of n numbers, each told by a function of its place. -/
def nums (n : Nat) (f : Nat → Int) : Array Value := ((List.range n).map fun i => Value.int .i64 (f i)).toArray
theorem nums_size (n : Nat) (f : Nat → Int) : (nums n f).size = n := by simp [nums]
theorem nums_get (n : Nat) (f : Nat → Int) (i : Nat) (h : i < n) : (nums n f)[i]? = some (.int .i64 (f i)) := by simp [nums, h]
theorem nums_congr (n : Nat) (f g : Nat → Int) (h : ∀ i, i < n → f i = g i) : nums n f = nums n g := by
  unfold nums; congr 1
  apply List.map_congr_left
  intro i hi
  rw [h i (by simpa using hi)]
theorem nums_set (n : Nat) (f g : Nat → Int) (i : Nat) (x : Int) (h : ∀ j, j < n → (if j = i then x else f j) = g j) : (nums n f).setIfInBounds i (.int .i64 x) = nums n g := by
  rw [← nums_congr n _ _ h]
  apply Array.ext_getElem?
  intro j
  rw [Array.getElem?_setIfInBounds, nums_size]
  by_cases hj : j < n
  · rw [nums_get _ _ _ hj]
    by_cases h : i = j
    · subst h; rw [if_pos rfl, if_pos hj, nums_get _ _ _ hj, if_pos rfl]
    · rw [if_neg h, nums_get _ _ _ hj, if_neg (Ne.symm h)]
  · have e1 : (nums n f)[j]? = none := by rw [Array.getElem?_eq_none_iff, nums_size]; omega
    have e2 : (nums n fun j => if j = i then x else f j)[j]? = none := by rw [Array.getElem?_eq_none_iff, nums_size]; omega
    rw [e1, e2]
    split
    · rw [if_neg (by omega)]
    · rfl
theorem nums_one (n : Nat) (f : Nat → Int) : (nums n f).all (·.oneCell') = true := by simp [nums, Value.oneCell']
theorem nums_cell {w : World} {g n : Nat} {t : TypeId} {f : Nat → Int} (h : w.heap[g]? = some (.cells (nums n f) t (0, 0))) (i : Nat) (hi : i < n) : w.cell? ⟨g, i, none⟩ = some (.int .i64 (f i)) := by
  rw [cell_of_row _ _ i _ _ _ h, nums_get _ _ _ hi]
/-- Two arrays as opaque values, compared by ==. -/
def numsV (n : Nat) (f : Nat → Int) : Value := .agg (nums n f)
/-- An array by value read at a place. -/
theorem index_nums {P : Program} (w : World) {t e : TypeId} {n : Nat} (f : Nat → Int) (i : Nat) (hi : i < n) (ht : P.underlying t = some (.array n e)) (he : P.underlying e = some (.int .i64)) (hc : P.cellsOf e = 1) :
    (Instr.index t (.agg (nums n f)) (.int .i64 (i : Int))).run P w = .ok (.int .i64 (f i)) w := by
  obtain ⟨inf, hinf⟩ := info_of he
  have hg := nums_get n f i hi
  have hn : (0 ≤ (i : Int) ∧ (i : Int) < (n : Int)) := by omega
  simp [Instr.index, run_underlying ht, run_underlying he, run_sizeOf w hinf, asIntOf, hn, hc, hg, hi, isAgg, go_sem]
end Go.Proofs.YtcdjkjadbhejpaaGreatDoor
namespace Go.Proofs.YtcdjkjadbhejpaaGreatDoor
open Go.RowKit
theorem isLet_of (c : UInt8) (x : Nat) (hx : x = c.toNat) : isLet c = ((decide (97 ≤ x) && decide (x ≤ 122)) || (decide (65 ≤ x) && decide (x ≤ 90)) || (decide (48 ≤ x) && decide (x ≤ 57)) || decide (x = 45) || decide (x = 46) || decide (x = 95) || decide (x = 43) || decide (x = 126)) := by
  have e : ∀ k : UInt8, (c == k) = decide (x = k.toNat) := fun k => by
    rw [Bool.eq_iff_iff, beq_iff_eq, decide_eq_true_eq, hx]
    exact ⟨fun h => by rw [h], fun h => UInt8.toNat_inj.1 h⟩
  unfold isLet
  rw [e, e, e, e, e, hx]; rfl
/-- A piece of a text. -/
theorem slice_mid {P : Program} (w : World) (t : TypeId) (s : List UInt8) (f k : Nat) (hf : f ≤ k) (hk : k ≤ s.length) (ht : P.underlying t = some .string) :
    (Instr.slice t (.string (str s)) (some (.int .i64 (f : Int))) (some (.int .i64 (k : Int))) none).run P w = .ok (.string (str ((s.take k).drop f))) w := by
  rw [run_slice_string_if w t (str s) .i64 .i64 f k ht, if_pos ⟨by omega, by rw [str_size]; omega⟩, if_pos ⟨by omega, by omega⟩, Int.toNat_natCast, Int.toNat_natCast]
  congr 2
  unfold str
  rw [ByteArray.extract_mk]
  simp [List.drop_take]
end Go.Proofs.YtcdjkjadbhejpaaGreatDoor
namespace Go.Proofs.YtcdjkjadbhejpaaGreatDoor
open Go.RowKit
/-- Two texts one behind the other, as an operation, the whole under a name. -/
theorem add_as {P : Program} {o : Oper} {a : Act} {t rt : TypeId} {x y : Operand} {l m r : List UInt8} (ho : o.op = .binOp .add t x y rt) (hx : a.eval x = .string (str l)) (hy : a.eval y = .string (str m)) (hn : l.length + m.length ≤ 4611686018427387904) (hr : l ++ m = r) :
    ∀ w, (execOp a.eval o).run P w = .ok (.value (.string (str r))) w := by subst hr; exact add_op ho hx hy hn
end Go.Proofs.YtcdjkjadbhejpaaGreatDoor
namespace Go.Proofs.YtcdjkjadbhejpaaGreatDoor
open Go.RowKit
/-- A dot's cells, just boxed. -/
def dotO (r q : Int) : Obj := .cells #[.int .i64 r, .int .i64 q] 24 (0, 0)
theorem dot_cells {w : World} {g : Nat} {r q : Int} (h : w.heap[g]? = some (dotO r q)) : w.cell? ⟨g, 0, none⟩ = some (.int .i64 r) ∧ w.cell? ⟨g, 1, none⟩ = some (.int .i64 q) :=
  ⟨by rw [cell_of_row _ _ 0 _ _ _ h]; rfl, by rw [cell_of_row _ _ 1 _ _ _ h]; rfl⟩
theorem two_boxes (w : World) (r q r' q' : Int) : ((w.alloc (dotO r q)).alloc (dotO r' q')).heap[w.heap.size]? = some (dotO r q) ∧ ((w.alloc (dotO r q)).alloc (dotO r' q')).heap[w.heap.size + 1]? = some (dotO r' q') := by
  constructor
  · rw [heap_at_alloc, if_neg (by simp)]; exact heap_last _ _
  · have := heap_last (w.alloc (dotO r q)) (dotO r' q'); rwa [World.size_alloc] at this
set_option maxRecDepth 100000 in
set_option maxHeartbeats 4000000 in
theorem refCompare_any (r q r' q' : Int) (w : World) : Calls Tryz.prog 55 #[.agg #[.int .i64 r, .int .i64 q], .agg #[.int .i64 r', .int .i64 q']] w fun e w' => e = .returned (.int .i64 (cmpD r q r' q')) ∧ Below w.heap.size w w' := by
  obtain ⟨h1, h2⟩ := two_boxes w r q r' q'
  obtain ⟨c1, c2⟩ := dot_cells h1
  obtain ⟨d1, d2⟩ := dot_cells h2
  have H1 := Lib.hid h1
  have H2 := Lib.hid h2
  have B0 := Lib.hid (((Below.refl w.heap.size w).alloc (Nat.le_refl _) (dotO r q)).alloc (by simp) (dotO r' q'))
  have HC := Lib.hid (cmp_cases r q r' q')
  clear h1 h2
  unfold dotO at *
  go_enter Tryz.func55, Tryz.ntmps55
  go_upto_region 1 with fail
  generalize (w.alloc (.cells #[.int .i64 r, .int .i64 q] 24 (0, 0))).alloc (.cells #[.int .i64 r', .int .i64 q'] 24 (0, 0)) = W0 at *
  clear HC
  go_wp2_with (first
    | (refine load_row_on (by rfl) 24 (.tmp 2) rfl w.heap.size rfl 24 _ (0, 0) _ H1.out Tryz.underlying24 rfl (by kernel_rfl) ?_)
    | (refine load_row_on (by rfl) 24 (.tmp 3) rfl (w.heap.size + 1) rfl 24 _ (0, 0) _ H2.out Tryz.underlying24 rfl (by kernel_rfl) ?_))
  all_goals
    go_ret
    refine ⟨congrArg Ending.returned (show Value.int .i64 _ = Value.int .i64 _ from congrArg _ ?_), B0.out⟩
    unfold cmpD
    split <;> (try split) <;> (try omega)
  all_goals trace_state
/-- A dot's own box. -/
theorem one_box (w : World) (r q : Int) : (w.alloc (dotO r q)).heap[w.heap.size]? = some (dotO r q) := heap_last _ _
set_option maxRecDepth 100000 in
set_option maxHeartbeats 4000000 in
theorem refMay_any9 (r q : Int) (w : World) : Calls Tryz.prog 74 #[.agg #[.int .i64 r, .int .i64 q]] w fun e w' => e = .returned (.bool (mayD r q)) ∧ Below w.heap.size w w' := by
  have h1 := one_box w r q
  obtain ⟨c1, c2⟩ := dot_cells h1
  have B0 := Lib.hid ((Below.refl w.heap.size w).alloc (Nat.le_refl _) (dotO r q))
  clear h1
  unfold dotO at *
  go_enter Tryz.func74, Tryz.ntmps74
  go_wp2
  all_goals
    go_ret
    refine ⟨congrArg Ending.returned (show Value.bool _ = Value.bool _ from congrArg Value.bool ?_), B0.out⟩
    unfold mayD
    rw [Bool.eq_iff_iff]
    simp
    try omega
end Go.Proofs.YtcdjkjadbhejpaaGreatDoor
namespace Go.Proofs.YtcdjkjadbhejpaaGreatDoor
open Go.RowKit
theorem row_kept {g : Nat} {A B : World} {o : Obj} (h : A.heap[g]? = some o) (hb : Below A.heap.size A B) : B.heap[g]? = some o := (hb.block g (Array.getElem?_eq_some_iff.1 h).1).trans h
end Go.Proofs.YtcdjkjadbhejpaaGreatDoor
namespace Go.Proofs.YtcdjkjadbhejpaaGreatDoor
open Go.RowKit
theorem solo_below {g B : Nat} {w0 w w' : World} (hb : Below B w0 w) (h : Solo g w w') (hg : B ≤ g) : Below B w0 w' :=
  hb.trans ⟨h.os, h.tape, h.output, Nat.le_of_eq h.size.symm, fun j hj => h.block j (by omega)⟩
end Go.Proofs.YtcdjkjadbhejpaaGreatDoor
namespace Go.Proofs.YtcdjkjadbhejpaaGreatDoor
open Go.RowKit
/-- A number loaded from an address that is known in every world at hand. -/
theorem addr_yields {P : Program} {ops : Array Oper} {S : World → Prop} {o : Oper} {a : Act} (hw : Region.wanted o (yielded ops a.tmps) = true) (ty : TypeId) (x : Operand) (ho : o.op = .load ty x)
    (A : Addr) (hx : a.eval x = .pointer (some A)) (k : IntKind) (z : Int) (hu : P.underlying ty = some (.int k)) (hS : ∀ w, S w → w.cell? A = some (.int k z)) : YieldsIf P ops S o (.int k z) a :=
  .inl ⟨hw, fun w h => by
    have hc := hS w h
    unfold execOp
    simp [ho, hx, Instr.loadAt, Instr.sureAddr, loadVar, isAgg, run_underlying hu, hc]⟩
/-- A dot loaded from an address whose two cells are known in every world at hand. -/
theorem dot_yields {P : Program} {ops : Array Oper} {S : World → Prop} {o : Oper} {a : Act} (hw : Region.wanted o (yielded ops a.tmps) = true) (ty : TypeId) (x : Operand) (ho : o.op = .load ty x)
    (A : Addr) (hx : a.eval x = .pointer (some A)) (r q : Int) {fs : Array Field} (hu : P.underlying ty = some (.struct fs)) (hi : (P.info? ty).map (·.size) = some 2) (hS : ∀ w, S w → w.cell? A = some (.int .i64 r) ∧ w.cell? ⟨A.block, A.off + 1, none⟩ = some (.int .i64 q)) : YieldsIf P ops S o (.agg #[.int .i64 r, .int .i64 q]) a :=
  .inl ⟨hw, fun w h => by
    obtain ⟨h1, h2⟩ := hS w h
    have h3 : w.cell? (A.add 1) = some (.int .i64 q) := by rw [addr_next2 A 0]; simpa [Addr.add] using h2
    have h0 : A.add 0 = A := by unfold Addr.add; split <;> simp_all
    have hl : (loadCells A [Value.int .i64 r, Value.int .i64 q].length).run P w = .ok [Value.int .i64 r, Value.int .i64 q].toArray w :=
      run_loadCells_list (P := P) w A [Value.int .i64 r, Value.int .i64 q] (fun j v hv => by
        match j, hv with
        | 0, hv => rw [h0, h1]; exact hv
        | 1, hv => rw [h3]; exact hv)
    cases hq : P.info? ty with
    | none => simp [hq] at hi
    | some i =>
      have hs : i.size = 2 := by simpa [hq] using hi
      have hl2 : (loadCells A 2).run P w = .ok #[Value.int .i64 r, Value.int .i64 q] w := hl
      unfold execOp
      simp [ho, hx, Instr.loadAt, Instr.sureAddr, loadVar, isAgg, run_underlying hu, sizeOf, typeInfo, hq, hs, hl2]⟩

theorem zero32 : (Tryz.prog.info? 123).map (fun i => i.zero) = some (some (.agg (nums 32 fun _ => 0))) := by kernel_rfl
theorem allV_at {l : List D2} {k : Nat} {d : D2} (hd : l[k]? = some d) (i : Nat) : allV (l.take (k + 1)) i = seen i (allV (l.take k) i) d := by
  obtain ⟨h, rfl⟩ := List.getElem?_eq_some_iff.1 hd
  exact allV_take h i
theorem drawS {W w : World} (h : Below W.heap.size W w) : Below W.heap.size W w.drew := ⟨h.os, h.tape, h.output, h.size, h.block⟩
set_option maxRecDepth 100000 in
set_option maxHeartbeats 16000000 in
theorem refAll_any (l : List D2) (hl : l.length < 2000000) (v : Value) (w : World) (hv : HasDots w v l) : Calls Tryz.prog 92 #[v] w fun e w' => e = .returned (.agg (nums 32 (allV l))) ∧ Below w.heap.size w w' := by
  have HV := Lib.hid hv
  obtain ⟨n, hn⟩ : ∃ n, n = l.length := ⟨_, rfl⟩
  obtain ⟨ao, cap, rfl⟩ := dots_shape hv n hn
  have HN := Lib.hid hn
  have hn4 : n < 2000000 := by omega
  have Z0 := heap_last w (.cells (nums 32 fun _ => 0) 123 (0, 0))
  have Z1 := heap_last (w.alloc (.cells (nums 32 fun _ => 0) 123 (0, 0))) (.cells (nums 32 fun _ => 0) 123 (0, 0))
  have HZ := Lib.hid (And.intro (show ((w.alloc (.cells (nums 32 fun _ => 0) 123 (0, 0))).alloc (.cells (nums 32 fun _ => 0) 123 (0, 0))).heap[w.heap.size]? = some (.cells (nums 32 fun _ => 0) 123 (0, 0)) by rw [heap_at_alloc, if_neg (by simp)]; exact Z0) (by rwa [World.size_alloc] at Z1))
  have HB := Lib.hid (((Below.refl w.heap.size w).alloc (Nat.le_refl _) (.cells (nums 32 fun _ => 0) 123 (0, 0))).alloc (by simp) (.cells (nums 32 fun _ => 0) 123 (0, 0)))
  clear hn hv hl Z0 Z1
  go_enter Tryz.func92, Tryz.ntmps92
  go_wp2_with (first | (refine alloc_as rfl 123 rfl _ zero32 ?_))
  go_loopw [4] (fun c wr => ∃ k : Nat, k ≤ n ∧ c = .int .i64 (k : Int) ∧ wr.heap[w.heap.size]? = some (.cells (nums 32 fun _ => 0) 123 (0, 0)) ∧ wr.heap[w.heap.size + 1]? = some (.cells (nums 32 (allV (l.take k))) 123 (0, 0)) ∧ Below w.heap.size w wr) (fun c _ => n - (intOf c).toNat)
  case atStart => exact ⟨0, Nat.zero_le _, rfl, HZ.out.1, HZ.out.2, HB.out⟩
  case round =>
    clear HZ HB
    obtain ⟨k, hk, rfl, hz, ho, hb⟩ := hrel
    by_cases hlt : k < n
    · have q0 : (k : Int) < (n : Int) := by omega
      have hkl : k < l.length := by rw [← HN.out]; exact hlt
      obtain ⟨d, hd⟩ : ∃ d, l[k]? = some d := ⟨_, List.getElem?_eq_getElem hkl⟩
      have HA := Lib.hid (allV_at hd)
      obtain ⟨r, q⟩ := d
      obtain ⟨ad, cap', e, c0, c1⟩ := dots_at (dots_below HV.out hb) n k HN.out.symm _ hd
      cases e
      have C0 := Lib.hid c0
      have C1 := Lib.hid c1
      have HZ := Lib.hid hz
      have HO := Lib.hid ho
      have HB := Lib.hid hb
      have MY := Lib.hid (fun w => refMay_any9 r q w)
      have KK := Lib.hid (show k + 1 ≤ n ∧ n - (k + 1) < n - k by omega)
      clear c0 c1 hz ho hb hd hkl
      cases hm : mayD r q with
      | false =>
        rw [hm] at MY
        have HS := Lib.hid (show nums 32 (allV (l.take (k + 1))) = nums 32 (allV (l.take k)) from nums_congr _ _ _ fun i _ => by
          rw [HA.out i, seen, if_neg (fun h => by have h2 := h.1; rw [mayT, hm] at h2; cases h2)])
        clear hm HA
        go_wp2
        refine wp_region_held_drew (S := fun w' => Below wr.heap.size wr w') (by kernel_rfl) (drawS (Below.refl _ _)) (fun hHeld => ?_)
        generalize wr.drew = wd at hHeld ⊢
        refine take_at (i := 0) 11 rfl rfl (by kernel_rfl) (by kernel_rfl) (by kernel_rfl) (fun _ _ _ h => h) (sure_yes (by rfl) (fun w => by go_simp; try with_reducible rfl)) hHeld ?_
        simp only [List.setIfInBounds_toArray, List.set_cons_zero, List.set_cons_succ]
        refine take_at (i := 1) 12 rfl rfl (by kernel_rfl) (by kernel_rfl) (by kernel_rfl) (fun _ _ _ h => h) (sure_yes (by rfl) (fun w => by go_simp; try with_reducible rfl)) hHeld ?_
        simp only [List.setIfInBounds_toArray, List.set_cons_zero, List.set_cons_succ]
        refine take_at (i := 2) 13 rfl rfl (by kernel_rfl) (by kernel_rfl) (by kernel_rfl) (fun _ _ _ h => h) (sure_yes (by rfl) (fun w => by go_simp; try with_reducible rfl)) hHeld ?_
        simp only [List.setIfInBounds_toArray, List.set_cons_zero, List.set_cons_succ]
        refine take_at (i := 3) 14 rfl rfl (by kernel_rfl) (by kernel_rfl) (by kernel_rfl) (fun _ _ _ h => h) (dot_yields (by rfl) 24 (.tmp 13) rfl (ad.add (k * 2)) rfl r q Tryz.underlying24 (by kernel_rfl) (fun w h => ⟨(World.cell?_of_block (h.block _ (World.block_lt_of_cell? _ _ C0.out))).trans C0.out, (World.cell?_of_block (h.block _ (World.block_lt_of_cell? _ _ C1.out))).trans C1.out⟩)) hHeld ?_
        simp only [List.setIfInBounds_toArray, List.set_cons_zero, List.set_cons_succ]
        refine wpAnyH_ready (rs := [4]) (by kernel_rfl) (by simp) ?_
        refine AllReadyH.cons rfl (fun K hK => ?_) AllReadyH.nil
        go_simp
        go_at_call 74
        refine (MY.out _).mono ?_
        rintro e w6 ⟨rfl, hb⟩
        dsimp only
        refine hK.out _ _ (below_next hHeld hb) (fun hHeld => ?_)
        clear hK K hb
        refine take_at (i := 5) 16 rfl rfl (by kernel_rfl) (by kernel_rfl) (by kernel_rfl) (fun _ _ _ h => h) (sure_yes (by rfl) (fun w => by go_simp; try with_reducible rfl)) hHeld ?_
        simp only [List.setIfInBounds_toArray, List.set_cons_zero, List.set_cons_succ]
        refine take_at (i := 6) 17 rfl rfl (by kernel_rfl) (by kernel_rfl) (by kernel_rfl) (fun _ _ _ h => h) (.inr ⟨by rfl, rfl⟩) hHeld ?_
        simp only [List.setIfInBounds_toArray, List.set_cons_zero, List.set_cons_succ]
        refine take_at (i := 7) 18 rfl rfl (by kernel_rfl) (by kernel_rfl) (by kernel_rfl) (fun _ _ _ h => h) (.inr ⟨by rfl, rfl⟩) hHeld ?_
        simp only [List.setIfInBounds_toArray, List.set_cons_zero, List.set_cons_succ]
        refine take_at (i := 8) 19 rfl rfl (by kernel_rfl) (by kernel_rfl) (by kernel_rfl) (fun _ _ _ h => h) (.inr ⟨by rfl, rfl⟩) hHeld ?_
        simp only [List.setIfInBounds_toArray, List.set_cons_zero, List.set_cons_succ]
        refine take_at (i := 9) 20 rfl rfl (by kernel_rfl) (by kernel_rfl) (by kernel_rfl) (fun _ _ _ h => h) (.inr ⟨by rfl, rfl⟩) hHeld ?_
        simp only [List.setIfInBounds_toArray, List.set_cons_zero, List.set_cons_succ]
        refine take_at (i := 10) 21 rfl rfl (by kernel_rfl) (by kernel_rfl) (by kernel_rfl) (fun _ _ _ h => h) (.inr ⟨by rfl, rfl⟩) hHeld ?_
        simp only [List.setIfInBounds_toArray, List.set_cons_zero, List.set_cons_succ]
        refine take_at (i := 11) 22 rfl rfl (by kernel_rfl) (by kernel_rfl) (by kernel_rfl) (fun _ _ _ h => h) (.inr ⟨by rfl, rfl⟩) hHeld ?_
        simp only [List.setIfInBounds_toArray, List.set_cons_zero, List.set_cons_succ]
        refine take_at (i := 12) 23 rfl rfl (by kernel_rfl) (by kernel_rfl) (by kernel_rfl) (fun _ _ _ h => h) (.inr ⟨by rfl, rfl⟩) hHeld ?_
        simp only [List.setIfInBounds_toArray, List.set_cons_zero, List.set_cons_succ]
        refine take_at (i := 13) 24 rfl rfl (by kernel_rfl) (by kernel_rfl) (by kernel_rfl) (fun _ _ _ h => h) (.inr ⟨by rfl, rfl⟩) hHeld ?_
        simp only [List.setIfInBounds_toArray, List.set_cons_zero, List.set_cons_succ]
        refine take_at (i := 14) 25 rfl rfl (by kernel_rfl) (by kernel_rfl) (by kernel_rfl) (fun _ _ _ h => h) (.inr ⟨by rfl, rfl⟩) hHeld ?_
        simp only [List.setIfInBounds_toArray, List.set_cons_zero, List.set_cons_succ]
        refine take_at (i := 15) 26 rfl rfl (by kernel_rfl) (by kernel_rfl) (by kernel_rfl) (fun _ _ _ h => h) (.inr ⟨by rfl, rfl⟩) hHeld ?_
        simp only [List.setIfInBounds_toArray, List.set_cons_zero, List.set_cons_succ]
        refine take_at (i := 16) 27 rfl rfl (by kernel_rfl) (by kernel_rfl) (by kernel_rfl) (fun _ _ _ h => h) (.inr ⟨by rfl, rfl⟩) hHeld ?_
        simp only [List.setIfInBounds_toArray, List.set_cons_zero, List.set_cons_succ]
        refine take_at (i := 17) 28 rfl rfl (by kernel_rfl) (by kernel_rfl) (by kernel_rfl) (fun _ _ _ h => h) (.inr ⟨by rfl, rfl⟩) hHeld ?_
        simp only [List.setIfInBounds_toArray, List.set_cons_zero, List.set_cons_succ]
        refine take_at (i := 18) 29 rfl rfl (by kernel_rfl) (by kernel_rfl) (by kernel_rfl) (fun _ _ _ h => h) (.inr ⟨by rfl, rfl⟩) hHeld ?_
        simp only [List.setIfInBounds_toArray, List.set_cons_zero, List.set_cons_succ]
        refine take_at (i := 19) 30 rfl rfl (by kernel_rfl) (by kernel_rfl) (by kernel_rfl) (fun _ _ _ h => h) (sure_yes (by rfl) (fun w => by go_simp; try with_reducible rfl)) hHeld ?_
        simp only [List.setIfInBounds_toArray, List.set_cons_zero, List.set_cons_succ]
        refine wpAnyH_done (by kernel_rfl) ?_ _
        go_wp2
        refine ⟨⟨k + 1, KK.out.1, by simp, row_kept HZ.out hHeld, by rw [HS.out]; exact row_kept HO.out hHeld, below_next HB.out hHeld⟩, ?_⟩
        simp [intOf]; exact KK.out.2
      | true =>
        rw [hm] at MY
        have hb := mayT_bd (d := (r, q)) hm
        simp only at hb
        obtain ⟨i, hi⟩ : ∃ i : Nat, r = (i : Int) := ⟨r.toNat, by omega⟩
        subst hi
        have hi32 : i < 32 := by omega
        have qi : (i : Int) < 32 := by omega
        obtain ⟨m, hme⟩ : ∃ m, m = allV (l.take k) i := ⟨_, rfl⟩
        have CM := Lib.hid (show wr.cell? ⟨w.heap.size + 1, i, none⟩ = some (.int .i64 m) by rw [hme]; exact nums_cell HO.out i hi32)
        by_cases hgt : m < q
        · have d1 : decide (q > m) = true := decide_eq_true hgt
          have HS := Lib.hid (show (nums 32 (allV (l.take k))).setIfInBounds i (.int .i64 q) = nums 32 (allV (l.take (k + 1))) from nums_set _ _ _ _ _ fun j _ => by
            rw [HA.out j, seen]
            by_cases hj : j = i
            · subst hj; rw [if_pos rfl, if_pos ⟨hm, rfl, by rw [← hme]; exact hgt⟩]
            · rw [if_neg hj, if_neg (fun h => hj (by have := h.2.1; simp only at this; omega))])
          clear hm HA hb hgt hme hi32
          go_wp2
          refine wp_region_held_drew (S := fun w' => Below wr.heap.size wr w') (by kernel_rfl) (drawS (Below.refl _ _)) (fun hHeld => ?_)
          generalize wr.drew = wd at hHeld ⊢
          refine take_at (i := 0) 11 rfl rfl (by kernel_rfl) (by kernel_rfl) (by kernel_rfl) (fun _ _ _ h => h) (sure_yes (by rfl) (fun w => by go_simp; try with_reducible rfl)) hHeld ?_
          simp only [List.setIfInBounds_toArray, List.set_cons_zero, List.set_cons_succ]
          refine take_at (i := 1) 12 rfl rfl (by kernel_rfl) (by kernel_rfl) (by kernel_rfl) (fun _ _ _ h => h) (sure_yes (by rfl) (fun w => by go_simp; try with_reducible rfl)) hHeld ?_
          simp only [List.setIfInBounds_toArray, List.set_cons_zero, List.set_cons_succ]
          refine take_at (i := 2) 13 rfl rfl (by kernel_rfl) (by kernel_rfl) (by kernel_rfl) (fun _ _ _ h => h) (sure_yes (by rfl) (fun w => by go_simp; try with_reducible rfl)) hHeld ?_
          simp only [List.setIfInBounds_toArray, List.set_cons_zero, List.set_cons_succ]
          refine take_at (i := 3) 14 rfl rfl (by kernel_rfl) (by kernel_rfl) (by kernel_rfl) (fun _ _ _ h => h) (dot_yields (by rfl) 24 (.tmp 13) rfl (ad.add (k * 2)) rfl (i : Int) q Tryz.underlying24 (by kernel_rfl) (fun w h => ⟨(World.cell?_of_block (h.block _ (World.block_lt_of_cell? _ _ C0.out))).trans C0.out, (World.cell?_of_block (h.block _ (World.block_lt_of_cell? _ _ C1.out))).trans C1.out⟩)) hHeld ?_
          simp only [List.setIfInBounds_toArray, List.set_cons_zero, List.set_cons_succ]
          refine wpAnyH_ready (rs := [4]) (by kernel_rfl) (by simp) ?_
          refine AllReadyH.cons rfl (fun K hK => ?_) AllReadyH.nil
          go_simp
          go_at_call 74
          refine (MY.out _).mono ?_
          rintro e w6 ⟨rfl, hb⟩
          dsimp only
          refine hK.out _ _ (below_next hHeld hb) (fun hHeld => ?_)
          clear hK K hb
          refine take_at (i := 5) 16 rfl rfl (by kernel_rfl) (by kernel_rfl) (by kernel_rfl) (fun _ _ _ h => h) (sure_yes (by rfl) (fun w => by go_simp; try with_reducible rfl)) hHeld ?_
          simp only [List.setIfInBounds_toArray, List.set_cons_zero, List.set_cons_succ]
          refine take_at (i := 6) 17 rfl rfl (by kernel_rfl) (by kernel_rfl) (by kernel_rfl) (fun _ _ _ h => h) (sure_yes (by rfl) (fun w => by go_simp; try with_reducible rfl)) hHeld ?_
          simp only [List.setIfInBounds_toArray, List.set_cons_zero, List.set_cons_succ]
          refine take_at (i := 7) 18 rfl rfl (by kernel_rfl) (by kernel_rfl) (by kernel_rfl) (fun _ _ _ h => h) (sure_yes (by rfl) (fun w => by go_simp; try with_reducible rfl)) hHeld ?_
          simp only [List.setIfInBounds_toArray, List.set_cons_zero, List.set_cons_succ]
          refine take_at (i := 8) 19 rfl rfl (by kernel_rfl) (by kernel_rfl) (by kernel_rfl) (fun _ _ _ h => h) (sure_yes (by rfl) (fun w => by go_simp; try with_reducible rfl)) hHeld ?_
          simp only [List.setIfInBounds_toArray, List.set_cons_zero, List.set_cons_succ]
          refine take_at (i := 9) 20 rfl rfl (by kernel_rfl) (by kernel_rfl) (by kernel_rfl) (fun _ _ _ h => h) (sure_yes (by rfl) (fun w => by go_simp; try with_reducible rfl)) hHeld ?_
          simp only [List.setIfInBounds_toArray, List.set_cons_zero, List.set_cons_succ]
          refine take_at (i := 11) 22 rfl rfl (by kernel_rfl) (by kernel_rfl) (by kernel_rfl) (fun _ _ _ h => h) (sure_yes (by rfl) (fun w => by go_simp; try with_reducible rfl)) hHeld ?_
          simp only [List.setIfInBounds_toArray, List.set_cons_zero, List.set_cons_succ]
          refine take_at (i := 12) 23 rfl rfl (by kernel_rfl) (by kernel_rfl) (by kernel_rfl) (fun _ _ _ h => h) (sure_yes (by rfl) (fun w => by go_simp; try with_reducible rfl)) hHeld ?_
          simp only [List.setIfInBounds_toArray, List.set_cons_zero, List.set_cons_succ]
          refine take_at (i := 13) 24 rfl rfl (by kernel_rfl) (by kernel_rfl) (by kernel_rfl) (fun _ _ _ h => h) (sure_yes (by rfl) (fun w => by go_simp; try with_reducible rfl)) hHeld ?_
          simp only [List.setIfInBounds_toArray, List.set_cons_zero, List.set_cons_succ]
          refine take_at (i := 14) 25 rfl rfl (by kernel_rfl) (by kernel_rfl) (by kernel_rfl) (fun _ _ _ h => h) (sure_yes (by rfl) (fun w => by go_simp; try with_reducible rfl)) hHeld ?_
          simp only [List.setIfInBounds_toArray, List.set_cons_zero, List.set_cons_succ]
          refine take_at (i := 10) 21 rfl rfl (by kernel_rfl) (by kernel_rfl) (by kernel_rfl) (fun _ _ _ h => h) (addr_yields (by rfl) 2 (.tmp 20) rfl (⟨(ad.add (k * 2)).block, (ad.add (k * 2)).off + 1, none⟩) rfl .i64 (q) Tryz.underlying2 (fun w h => (World.cell?_of_block (h.block _ (World.block_lt_of_cell? _ _ C1.out))).trans C1.out)) hHeld ?_
          simp only [List.setIfInBounds_toArray, List.set_cons_zero, List.set_cons_succ]
          refine take_at (i := 15) 26 rfl rfl (by kernel_rfl) (by kernel_rfl) (by kernel_rfl) (fun _ _ _ h => h) (addr_yields (by rfl) 3 (.tmp 25) rfl (ad.add (k * 2)) rfl .i64 ((i : Int)) Tryz.underlying3 (fun w h => (World.cell?_of_block (h.block _ (World.block_lt_of_cell? _ _ C0.out))).trans C0.out)) hHeld ?_
          simp only [List.setIfInBounds_toArray, List.set_cons_zero, List.set_cons_succ]
          refine take_at (i := 16) 27 rfl rfl (by kernel_rfl) (by kernel_rfl) (by kernel_rfl) (fun _ _ _ h => h) (sure_yes (by rfl) (fun w => by go_simp; try with_reducible rfl)) hHeld ?_
          simp only [List.setIfInBounds_toArray, List.set_cons_zero, List.set_cons_succ]
          refine take_at (i := 17) 28 rfl rfl (by kernel_rfl) (by kernel_rfl) (by kernel_rfl) (fun _ _ _ h => h) (addr_yields (by rfl) 2 (.tmp 27) rfl (⟨w.heap.size + 1, i, none⟩) rfl .i64 (m) Tryz.underlying2 (fun w h => (World.cell?_of_block (h.block _ (World.block_lt_of_cell? _ _ CM.out))).trans CM.out)) hHeld ?_
          simp only [List.setIfInBounds_toArray, List.set_cons_zero, List.set_cons_succ]
          refine take_at (i := 18) 29 rfl rfl (by kernel_rfl) (by kernel_rfl) (by kernel_rfl) (fun _ _ _ h => h) (sure_yes (by rfl) (fun w => by go_simp; try with_reducible rfl)) hHeld ?_
          simp only [List.setIfInBounds_toArray, List.set_cons_zero, List.set_cons_succ]
          refine take_at (i := 19) 30 rfl rfl (by kernel_rfl) (by kernel_rfl) (by kernel_rfl) (fun _ _ _ h => h) (sure_yes (by rfl) (fun w => by go_simp; try with_reducible rfl)) hHeld ?_
          simp only [List.setIfInBounds_toArray, List.set_cons_zero, List.set_cons_succ]
          refine wpAnyH_done (by kernel_rfl) ?_ _
          have c0 := (World.cell?_of_block (hHeld.block _ (World.block_lt_of_cell? _ _ C0.out))).trans C0.out
          have c1 := (World.cell?_of_block (hHeld.block _ (World.block_lt_of_cell? _ _ C1.out))).trans C1.out
          have HO6 := Lib.hid (row_kept HO.out hHeld)
          have HZ6 := Lib.hid (row_kept HZ.out hHeld)
          have HB6 := Lib.hid (below_next HB.out hHeld)
          clear hHeld C0 C1 CM HO HZ HB
          go_wp2
          go_still_tail 11, (by kernel_rfl)
          change wpList _ _ _ _ _ w6.drew
          have hz : w6.drew.heap[w.heap.size]? = _ := HZ6.out
          have ho : w6.drew.heap[w.heap.size + 1]? = _ := HO6.out
          have hb := below_draws HB6.out 1
          change Below _ _ w6.drew at hb
          clear HO6 HZ6 HB6 c0 c1
          generalize w6.drew = w7 at *
          go_wp2_with (first
            | (refine store_cell rfl 2 (.tmp 41) (.tmp 40) rfl rfl .i64 (w.heap.size + 1) i _ q 123 ho rfl rfl (by rw [nums_size]; omega) (by kernel_rfl) ?_; intro w8 hg8 hs8; rw [HS.out] at hg8; have H8 := Lib.hid (And.intro hg8 (And.intro ((hs8.block w.heap.size (by omega)).trans hz) (solo_below hb hs8 (by omega)))); clear hg8 hs8 hz ho hb))
          refine ⟨⟨k + 1, KK.out.1, by simp, H8.out.2.1, H8.out.1, H8.out.2.2⟩, ?_⟩
          simp [intOf]; exact KK.out.2
        · have d1 : decide (q > m) = false := decide_eq_false (by omega)
          have HS := Lib.hid (show nums 32 (allV (l.take (k + 1))) = nums 32 (allV (l.take k)) from nums_congr _ _ _ fun j _ => by
            rw [HA.out j, seen, if_neg (fun h => by
              obtain rfl : j = i := by have := h.2.1; simp only at this; omega
              rw [← hme] at h; exact hgt h.2.2)])
          clear hm HA hb hgt hme hi32
          go_wp2
          refine wp_region_held_drew (S := fun w' => Below wr.heap.size wr w') (by kernel_rfl) (drawS (Below.refl _ _)) (fun hHeld => ?_)
          generalize wr.drew = wd at hHeld ⊢
          refine take_at (i := 0) 11 rfl rfl (by kernel_rfl) (by kernel_rfl) (by kernel_rfl) (fun _ _ _ h => h) (sure_yes (by rfl) (fun w => by go_simp; try with_reducible rfl)) hHeld ?_
          simp only [List.setIfInBounds_toArray, List.set_cons_zero, List.set_cons_succ]
          refine take_at (i := 1) 12 rfl rfl (by kernel_rfl) (by kernel_rfl) (by kernel_rfl) (fun _ _ _ h => h) (sure_yes (by rfl) (fun w => by go_simp; try with_reducible rfl)) hHeld ?_
          simp only [List.setIfInBounds_toArray, List.set_cons_zero, List.set_cons_succ]
          refine take_at (i := 2) 13 rfl rfl (by kernel_rfl) (by kernel_rfl) (by kernel_rfl) (fun _ _ _ h => h) (sure_yes (by rfl) (fun w => by go_simp; try with_reducible rfl)) hHeld ?_
          simp only [List.setIfInBounds_toArray, List.set_cons_zero, List.set_cons_succ]
          refine take_at (i := 3) 14 rfl rfl (by kernel_rfl) (by kernel_rfl) (by kernel_rfl) (fun _ _ _ h => h) (dot_yields (by rfl) 24 (.tmp 13) rfl (ad.add (k * 2)) rfl (i : Int) q Tryz.underlying24 (by kernel_rfl) (fun w h => ⟨(World.cell?_of_block (h.block _ (World.block_lt_of_cell? _ _ C0.out))).trans C0.out, (World.cell?_of_block (h.block _ (World.block_lt_of_cell? _ _ C1.out))).trans C1.out⟩)) hHeld ?_
          simp only [List.setIfInBounds_toArray, List.set_cons_zero, List.set_cons_succ]
          refine wpAnyH_ready (rs := [4]) (by kernel_rfl) (by simp) ?_
          refine AllReadyH.cons rfl (fun K hK => ?_) AllReadyH.nil
          go_simp
          go_at_call 74
          refine (MY.out _).mono ?_
          rintro e w6 ⟨rfl, hb⟩
          dsimp only
          refine hK.out _ _ (below_next hHeld hb) (fun hHeld => ?_)
          clear hK K hb
          refine take_at (i := 5) 16 rfl rfl (by kernel_rfl) (by kernel_rfl) (by kernel_rfl) (fun _ _ _ h => h) (sure_yes (by rfl) (fun w => by go_simp; try with_reducible rfl)) hHeld ?_
          simp only [List.setIfInBounds_toArray, List.set_cons_zero, List.set_cons_succ]
          refine take_at (i := 6) 17 rfl rfl (by kernel_rfl) (by kernel_rfl) (by kernel_rfl) (fun _ _ _ h => h) (sure_yes (by rfl) (fun w => by go_simp; try with_reducible rfl)) hHeld ?_
          simp only [List.setIfInBounds_toArray, List.set_cons_zero, List.set_cons_succ]
          refine take_at (i := 7) 18 rfl rfl (by kernel_rfl) (by kernel_rfl) (by kernel_rfl) (fun _ _ _ h => h) (sure_yes (by rfl) (fun w => by go_simp; try with_reducible rfl)) hHeld ?_
          simp only [List.setIfInBounds_toArray, List.set_cons_zero, List.set_cons_succ]
          refine take_at (i := 8) 19 rfl rfl (by kernel_rfl) (by kernel_rfl) (by kernel_rfl) (fun _ _ _ h => h) (sure_yes (by rfl) (fun w => by go_simp; try with_reducible rfl)) hHeld ?_
          simp only [List.setIfInBounds_toArray, List.set_cons_zero, List.set_cons_succ]
          refine take_at (i := 9) 20 rfl rfl (by kernel_rfl) (by kernel_rfl) (by kernel_rfl) (fun _ _ _ h => h) (sure_yes (by rfl) (fun w => by go_simp; try with_reducible rfl)) hHeld ?_
          simp only [List.setIfInBounds_toArray, List.set_cons_zero, List.set_cons_succ]
          refine take_at (i := 11) 22 rfl rfl (by kernel_rfl) (by kernel_rfl) (by kernel_rfl) (fun _ _ _ h => h) (sure_yes (by rfl) (fun w => by go_simp; try with_reducible rfl)) hHeld ?_
          simp only [List.setIfInBounds_toArray, List.set_cons_zero, List.set_cons_succ]
          refine take_at (i := 12) 23 rfl rfl (by kernel_rfl) (by kernel_rfl) (by kernel_rfl) (fun _ _ _ h => h) (sure_yes (by rfl) (fun w => by go_simp; try with_reducible rfl)) hHeld ?_
          simp only [List.setIfInBounds_toArray, List.set_cons_zero, List.set_cons_succ]
          refine take_at (i := 13) 24 rfl rfl (by kernel_rfl) (by kernel_rfl) (by kernel_rfl) (fun _ _ _ h => h) (sure_yes (by rfl) (fun w => by go_simp; try with_reducible rfl)) hHeld ?_
          simp only [List.setIfInBounds_toArray, List.set_cons_zero, List.set_cons_succ]
          refine take_at (i := 14) 25 rfl rfl (by kernel_rfl) (by kernel_rfl) (by kernel_rfl) (fun _ _ _ h => h) (sure_yes (by rfl) (fun w => by go_simp; try with_reducible rfl)) hHeld ?_
          simp only [List.setIfInBounds_toArray, List.set_cons_zero, List.set_cons_succ]
          refine take_at (i := 10) 21 rfl rfl (by kernel_rfl) (by kernel_rfl) (by kernel_rfl) (fun _ _ _ h => h) (addr_yields (by rfl) 2 (.tmp 20) rfl (⟨(ad.add (k * 2)).block, (ad.add (k * 2)).off + 1, none⟩) rfl .i64 (q) Tryz.underlying2 (fun w h => (World.cell?_of_block (h.block _ (World.block_lt_of_cell? _ _ C1.out))).trans C1.out)) hHeld ?_
          simp only [List.setIfInBounds_toArray, List.set_cons_zero, List.set_cons_succ]
          refine take_at (i := 15) 26 rfl rfl (by kernel_rfl) (by kernel_rfl) (by kernel_rfl) (fun _ _ _ h => h) (addr_yields (by rfl) 3 (.tmp 25) rfl (ad.add (k * 2)) rfl .i64 ((i : Int)) Tryz.underlying3 (fun w h => (World.cell?_of_block (h.block _ (World.block_lt_of_cell? _ _ C0.out))).trans C0.out)) hHeld ?_
          simp only [List.setIfInBounds_toArray, List.set_cons_zero, List.set_cons_succ]
          refine take_at (i := 16) 27 rfl rfl (by kernel_rfl) (by kernel_rfl) (by kernel_rfl) (fun _ _ _ h => h) (sure_yes (by rfl) (fun w => by go_simp; try with_reducible rfl)) hHeld ?_
          simp only [List.setIfInBounds_toArray, List.set_cons_zero, List.set_cons_succ]
          refine take_at (i := 17) 28 rfl rfl (by kernel_rfl) (by kernel_rfl) (by kernel_rfl) (fun _ _ _ h => h) (addr_yields (by rfl) 2 (.tmp 27) rfl (⟨w.heap.size + 1, i, none⟩) rfl .i64 (m) Tryz.underlying2 (fun w h => (World.cell?_of_block (h.block _ (World.block_lt_of_cell? _ _ CM.out))).trans CM.out)) hHeld ?_
          simp only [List.setIfInBounds_toArray, List.set_cons_zero, List.set_cons_succ]
          refine take_at (i := 18) 29 rfl rfl (by kernel_rfl) (by kernel_rfl) (by kernel_rfl) (fun _ _ _ h => h) (sure_yes (by rfl) (fun w => by go_simp; try with_reducible rfl)) hHeld ?_
          simp only [List.setIfInBounds_toArray, List.set_cons_zero, List.set_cons_succ]
          refine take_at (i := 19) 30 rfl rfl (by kernel_rfl) (by kernel_rfl) (by kernel_rfl) (fun _ _ _ h => h) (sure_yes (by rfl) (fun w => by go_simp; try with_reducible rfl)) hHeld ?_
          simp only [List.setIfInBounds_toArray, List.set_cons_zero, List.set_cons_succ]
          refine wpAnyH_done (by kernel_rfl) ?_ _
          go_wp2
          refine ⟨⟨k + 1, KK.out.1, by simp, row_kept HZ.out hHeld, by rw [HS.out]; exact row_kept HO.out hHeld, below_next HB.out hHeld⟩, ?_⟩
          simp [intOf]; exact KK.out.2
    · have q0 : ¬ (k : Int) < (n : Int) := by omega
      have HE := Lib.hid (show l.take k = l by rw [show k = l.length by rw [← HN.out]; omega, List.take_length])
      rw [HE.out] at ho
      have HZ := Lib.hid hz
      have HO := Lib.hid ho
      have HB := Lib.hid hb
      clear hz ho hb
      go_wp2_with (first
        | (refine wpList_load_row rfl 123 (.tmp 3) rfl (w.heap.size + 1) rfl 123 _ (0, 0) _ HO.out Tryz.underlying123 rfl (by rw [nums_size]; kernel_rfl) ?_)
        | (refine wpList_store_row rfl 123 (.tmp 2) (.tmp 42) rfl w.heap.size _ rfl rfl 123 _ HZ.out (by rw [nums_size]; kernel_rfl) (by rw [nums_size, nums_size]) (nums_one _ _) ?_))
      exact bodyPost_ret (results_cell_row Tryz.results92 _ _ w.heap.size 123 _ (0, 0) _ rfl (setRow_heap _ _ _ _ _ _ HZ.out) Tryz.underlying123 rfl (by rw [nums_size]; kernel_rfl)) rfl ⟨rfl, below_setRow HB.out (Nat.le_refl _) _⟩
end Go.Proofs.YtcdjkjadbhejpaaGreatDoor
